/-
  Layer 12, the program: those of the nodes that are wanted; Ids.
-/
import Derived.Test.YtajmgjhknmkfpaaUj
namespace Go.Proofs.Ytajmgjhknmkfpaa
set_option maxRecDepth 20000
open Go.RowKit Go.Maps
set_option linter.unusedVariables false
set_option linter.unusedSimpArgs false

/-- A node's zero value. -/
theorem zNode_any : ∃ z : Array Value, z.size = 21 ∧ (∀ w, (zeroValue 65).run Try.prog w = .ok (.agg z) w) :=
  ⟨(cellsD idZ ++ [Value.slice none 0 0]).toArray, by rw [List.size_toArray, List.length_append, cellsD_len _ rfl]; rfl, zero_arr (n := 21) (by kernel_rfl)⟩
/-- A node and its id, in their row. -/
theorem GraphIn.node {S : Nat → Prop} {w : World} {g : Nat} {L : List Gn} {E : List Enn} {v : Value} {mb : Option Nat} (h : GraphIn S w g L E v mb) {k : Nat} (hk : k < L.length) :
    ∃ b o c e, v = .slice (some ⟨b, o, none⟩) L.length c ∧ L.length ≤ c ∧ b < w.heap.size ∧ w.rangeAt b (o + k * 21) (cellsN e) ∧ okN e ∧ e.n = L[k] ∧ RedR rowN (fun k => S k ∧ k ≠ g ∧ v.ownBlock ≠ some k ∧ mb ≠ some k) w e.v e.n.pl := by
  obtain ⟨a, c, e, hc, hm, hr, hl⟩ := h.shape
  obtain ⟨b, o, rfl, hb⟩ := hr.some (by omega)
  have hkE : k < E.length := by omega
  have hE : E[k].n = L[k] := by simp only [← h.ens, List.getElem_map]
  obtain ⟨hok, hred⟩ := h.red _ (List.getElem_mem hkE)
  exact ⟨b, o, c, E[k], e, hc, hb, hr.elem k hkE, hok, hE, hred⟩
theorem thoseG_len (L : List Gn) (f : Nat → Bool) : (thoseG L f).length ≤ L.length := by
  unfold thoseG
  rw [List.length_map]
  exact Nat.le_trans (List.length_filter_le _ _) (by simp)
theorem those_step (L : List Gn) (f : Nat → Bool) (k : Nat) : ((List.range (k + 1)).filter f).map (idAt L) = ((List.range k).filter f).map (idAt L) ++ (if f k then [idAt L k] else []) := by
  rw [List.range_succ, List.filter_append, List.map_append]
  congr 1
  by_cases h : f k = true
  · simp [h]
  · simp [h]
theorem node_id {w : World} {b o : Nat} {e : Enn} (h : w.rangeAt b o (cellsN e)) : w.rangeAt b o (cellsD e.n.id) := fun j v hv => h j v (by
  unfold cellsN
  rw [List.getElem?_append_left (List.getElem?_eq_some_iff.1 hv).1]
  exact hv)
set_option maxRecDepth 100000 in
set_option maxHeartbeats 16000000 in
theorem thoseP_is {S : Nat → Prop} {w : World} {g : Nat} {L : List Gn} (h : GraphP S w g L) (hL : L.length ≤ 1000000) (f : FuncId) (lb : Array Value) (q : Nat → Bool)
    (eg : ∀ args w, (callFunc f args).run Try.prog w = .ok (.enter f args) w)
    (hf : ∀ u (k : Nat), Below w.heap.size w u → k < L.length → Calls Try.prog f (#[.int .i64 (k : Int)] ++ lb) u fun e u' => e = .returned (.bool (q k)) ∧ Below u.heap.size u u') :
    Calls Try.prog 37 #[.pointer (some ⟨g, 0, none⟩), .func (.func f) #[] lb] w fun e w' => ∃ v, e = .returned v ∧ OwnD w.heap.size v (thoseG L q) w' ∧ Below w.heap.size w w' := by
  obtain ⟨hg, E, vv, mb, hin⟩ := h
  obtain ⟨c0, -, -⟩ := hin.cells rfl
  obtain ⟨av, cv, hvv, hle, -⟩ := hin.shape
  have HIN := Lib.hid (fun u (hu : Below w.heap.size w u) => hin.keep hg (StayB.of hu))
  have HG := Lib.hid hin.good; have HLL := Lib.hid hL
  subst hvv
  have CA := Lib.hid (fun u (hu : Below w.heap.size w u) => allP_is g (.slice av L.length cv) u ((HIN.out u hu).cells rfl).1)
  have HF := Lib.hid hf
  obtain ⟨n, hn⟩ : ∃ n, L.length = n := ⟨_, rfl⟩
  have HN := Lib.hid hn
  obtain ⟨z, hzs, hzv⟩ := zNode_any
  have ZS := Lib.hid hzs
  rw [hn] at CA hle
  have CA := Lib.hid (CA.out w (Below.refl _ _))
  have hn6 : n ≤ 1000000 := by rw [← hn]; exact hL
  clear hin hf hn hzs c0 hL
  go_enter Try.func37, Try.ntmps37
  go_wp2_with fail
  refine CA.out.mono ?_
  rintro e w1 ⟨rfl, rfl⟩
  go_wp2_with fail
  go_loopw [5, 11] (fun v i wr => ∃ k : Nat, k ≤ n ∧ i = .int .i64 k ∧ OwnD w1.heap.size v (((List.range k).filter q).map (idAt L)) wr ∧ Below w1.heap.size w1 wr) (fun _ i _ => n - (intOf i).toNat)
  case atStart => exact ⟨0, Nat.zero_le _, rfl, ownD_nil _ _, Below.refl _ _⟩
  case round =>
    obtain ⟨k, hk, rfl, how, hbr⟩ := hrel
    have HO := Lib.hid how; have HBR := Lib.hid hbr
    clear how hbr
    by_cases hlt : k < n
    · have hkL : k < L.length := by rw [HN.out]; exact hlt
      obtain ⟨b, o, c, e, hv, hc, hb, hrow, hok, hen, -⟩ := (HIN.out wr HBR.out).node hkL
      simp only [Value.slice.injEq] at hv
      obtain ⟨rfl, -, rfl⟩ := hv
      obtain ⟨N, hN⟩ : ∃ N, (cellsN e).toArray = N := ⟨_, rfl⟩
      have sN : N.size = 21 := by rw [← hN, List.size_toArray]; exact cellsN_len e hok
      have SN := Lib.hid sN
      have RW := Lib.hid hrow
      have IN := Lib.hid (show (Try.prog.info? 65).map (·.size) = some (cellsN e).length by rw [cellsN_len e hok]; kernel_rfl)
      have IN2 := Lib.hid (show (Try.prog.info? 65).map (·.size) = some N.size by rw [sN]; kernel_rfl)
      have ON := Lib.hid (show N.all (·.oneCell') = true by rw [← hN, Array.all_eq_true_iff_forall_mem]; intro v hv; exact cellsN_one e hok v (by simpa using hv))
      obtain ⟨i, hi⟩ : ∃ i, e.n.id = i := ⟨_, rfl⟩
      have HI20 := Lib.hid (show i.length = 20 by rw [← hi]; exact hok.1)
      have HIA := Lib.hid (show idAt L k = i by rw [idAt_lt hkL, ← hen, hi])
      obtain ⟨Y, hY⟩ : ∃ Y, arrD i = Y := ⟨_, rfl⟩
      have HY := Lib.hid hY
      have HYS := Lib.hid (show Y.size = 20 by rw [← hY]; exact arrD_size i HI20.out)
      have LI := Lib.hid (show (Try.prog.info? 32).map (·.size) = some (cellsD i).length by rw [cellsD_len i HI20.out]; exact infoD_n)
      have RID := Lib.hid (show ∀ (u : World) (x : Nat), u.heap[x]? = some (.cells N 65 (0, 0)) → u.rangeAt x 0 (cellsD i) from fun u x hx => by
        have q := row_arrD hx
        rw [← hN, List.toList_toArray] at q
        rw [← hi]
        exact node_id q)
      have LL := Lib.hid (show (((List.range k).filter q).map (idAt L)).length ≤ 1000000000 by
        rw [List.length_map]
        have h1 := List.length_filter_le q (List.range k)
        rw [List.length_range] at h1
        have h2 := HLL.out
        have h3 := HN.out
        omega)
      have EGF := HF.out
      have HLT := Lib.hid hlt
      clear hrow hok hen hi hY sN hkL hb hc
      go_wp2_with (first
        | (with_reducible refine wpList_load_midD 65 (.tmp 14) rfl (by kernel_rfl) b (o + k * 21) rfl (cellsN e) _ RW.out Try.underlying65 rfl IN.out ?_; rw [hN])
        | (with_reducible refine wpList_store_all rfl 65 (.tmp 7) (.tmp 15) rfl wr.heap.size N rfl rfl 65 z (heap_alloc_new wr _) IN2.out (SN.out.trans ZS.out.symm) ON.out ?_)
        | fail)
      intro w2 r2 off2 sz2
      have b2 : Below wr.heap.size wr w2 := ((Below.refl wr.heap.size wr).alloc (Nat.le_refl _) (.cells z 65)).trans (off2.below (Nat.le_refl _) (by simp))
      have B2 := Lib.hid (HBR.out.trans (b2.mono HBR.out.size))
      have HO2 := Lib.hid (ownD_below HO.out b2)
      have CF := Lib.hid (EGF w2 k B2.out (by rw [HN.out]; exact hlt))
      have R2 := Lib.hid r2
      clear b2 off2 sz2 r2 EGF
      obtain ⟨x, hx⟩ : ∃ x, wr.heap.size = x := ⟨_, rfl⟩
      rw [hx] at R2 ⊢
      clear hx
      go_wp2_with fail
      refine CF.out.mono ?_
      rintro e w3 ⟨rfl, hb3⟩
      have R3 := Lib.hid ((hb3.block x (lt_of_heap R2.out)).trans R2.out)
      have B3 := Lib.hid (B2.out.trans (hb3.mono B2.out.size))
      have HO3 := Lib.hid (ownD_below HO2.out hb3)
      have ST := Lib.hid (those_step L q k)
      have RI := Lib.hid (RID.out w3 x R3.out)
      have EA := Lib.hid (show (cellsD i).toArray = Y from HY.out)
      clear hb3 CF
      obtain ⟨bq, hbq⟩ : ∃ bq, q k = bq := ⟨_, rfl⟩
      rw [hbq] at ST ⊢
      cases bq with
      | false =>
        have HF3 := Lib.hid (show OwnD w1.heap.size _ (((List.range (k + 1)).filter q).map (idAt L)) w3 by rw [ST.out]; simpa using HO3.out)
        clear hbq
        go_wp2
        go_roundw
        case rel => exact ⟨k + 1, HLT.out, by go_num, HF3.out, B3.out⟩
        case measure => have := HLT.out; simp [intOf]; omega
      | true =>
        have STT := Lib.hid (show ((List.range (k + 1)).filter q).map (idAt L) = ((List.range k).filter q).map (idAt L) ++ [i] by rw [ST.out, HIA.out]; simp)
        have b4 := (Below.refl w3.heap.size w3).alloc (Nat.le_refl _) (.cells Y 32)
        have B4 := Lib.hid (B3.out.trans (b4.mono B3.out.size))
        have HO4 := Lib.hid (ownD_below HO3.out b4)
        clear hbq b4
        have ea := EA.out
        generalize cellsD i = ci at *
        go_wp2_with (first
          | (with_reducible refine wpList_load_midD 32 (.tmp 20) rfl (by kernel_rfl) x 0 rfl ci _ RI.out Try.underlying32 rfl LI.out ?_; rw [ea])
          | (with_reducible refine wpList_build_idD rfl (.tmp 21) rfl Y HYS.out rfl ?_)
          | (at_builtin; refine wpList_append_idD rfl _ _ rfl w1.heap.size _ (((List.range k).filter q).map (idAt L)) i w3.heap.size Y HY.out.symm rfl rfl (heap_alloc_new w3 _) HI20.out HO4.out LL.out B4.out.size ?_)
          | fail)
        intro v6 w6 o6 g6
        have HB6 := Lib.hid (B4.out.trans ((Below.refl w1.heap.size _).grown g6 B4.out.size (fun j hj => (HO4.out.lt j hj).1)))
        have HW6 := Lib.hid (show OwnD w1.heap.size v6 (((List.range (k + 1)).filter q).map (idAt L)) w6 by rw [STT.out]; exact o6)
        clear o6 g6
        go_wp2
        go_roundw
        case rel => exact ⟨k + 1, HLT.out, by go_num, HW6.out, HB6.out⟩
        case measure => have := HLT.out; simp [intOf]; omega
    · obtain rfl : k = n := by omega
      have HE := Lib.hid (show OwnD w1.heap.size _ (thoseG L q) wr by unfold thoseG; rw [HN.out]; exact HO.out)
      go_wp2
      go_ret
      exact ⟨_, rfl, HE.out, HBR.out⟩
set_option maxRecDepth 100000 in
set_option maxHeartbeats 4000000 in
theorem thoseP_nil (fv : Value) (w : World) :
    Calls Try.prog 37 #[.pointer none, fv] w fun e w' => e = .returned (.slice none 0 0) ∧ Below w.heap.size w w' := by
  have CA := Lib.hid (allP_nil w)
  go_enter Try.func37, Try.ntmps37
  go_wp2_with fail
  refine CA.out.mono ?_
  rintro e w1 ⟨rfl, rfl⟩
  go_wp2_with fail
  refine wp_loop_rounds 1 ?_
  rw [rounds_succ]
  go_wp2
  go_ret
  exact ⟨rfl, Below.refl _ _⟩
theorem ids_closure (k : Int) (w : World) : Calls Try.prog 38 #[.int .i64 k] w fun e w' => e = .returned (.bool true) ∧ Below w.heap.size w w' := by
  go_enter Try.func38, Try.ntmps38
  go_wp2
  go_ret
  exact ⟨rfl, Below.refl _ _⟩
theorem those_all (L : List Gn) : thoseG L (fun _ => true) = idsG L := by
  unfold thoseG idsG
  rw [List.filter_eq_self.2 (fun _ _ => rfl)]
  apply List.ext_getElem (by simp)
  intro k h1 h2
  simp only [List.length_map] at h2
  simp [idAt_lt h2]
set_option maxHeartbeats 1000000 in
theorem idsP_is {S : Nat → Prop} {w : World} {g : Nat} {L : List Gn} (h : GraphP S w g L) (hL : L.length ≤ 1000000) :
    Calls Try.prog 18 #[.pointer (some ⟨g, 0, none⟩)] w fun e w' => ∃ v, e = .returned v ∧ OwnD w.heap.size v (idsG L) w' ∧ Below w.heap.size w w' := by
  have CT := thoseP_is h hL 38 #[] (fun _ => true) (fun args w => by kernel_rfl) (fun u k _ _ => by simpa using ids_closure k u)
  rw [those_all] at CT
  have CT := Lib.hid CT
  clear h hL
  go_enter Try.func18, Try.ntmps18
  go_wp2_with fail
  refine CT.out.mono ?_
  rintro e w1 ⟨v, rfl, hv, hb⟩
  have F := Lib.hid (And.intro hv hb)
  clear hv hb
  go_wp2
  go_ret
  exact ⟨_, rfl, F.out⟩
set_option maxHeartbeats 1000000 in
theorem idsP_nil (w : World) : Calls Try.prog 18 #[.pointer none] w fun e w' => e = .returned (.slice none 0 0) ∧ Below w.heap.size w w' := by
  have CT := Lib.hid (thoseP_nil (.func (.func 38) #[] #[]) w)
  go_enter Try.func18, Try.ntmps18
  go_wp2_with fail
  refine CT.out.mono ?_
  rintro e w1 ⟨rfl, hb⟩
  have F := Lib.hid hb
  clear hb
  go_wp2
  go_ret
  exact ⟨rfl, F.out⟩
end Go.Proofs.Ytajmgjhknmkfpaa
