/-
  Layer 12: slices.DeleteFunc over ids that a call owns.
-/
import Derived.Test.YtajmgjhknmkfpaaUv
namespace Go.Proofs.Ytajmgjhknmkfpaa
set_option maxRecDepth 20000
open Go.RowKit Go.Maps
set_option linter.unusedVariables false
set_option linter.unusedSimpArgs false

/-- The head of a row that a call owns. -/
theorem ownD_cut {B g n c : Nat} {l : List (List UInt8)} {w : World} (h : OwnD B (.slice (some ⟨g, 0, none⟩) n c) l w) (hn : n = l.length) (hid : ∀ i ∈ l, i.length = 20) (k : Nat) (hk : k ≤ n) : OwnD B (.slice (some ⟨g, 0, none⟩) k c) (l.take k) w := by
  subst hn
  have hlen : (l.take k).length = k := by rw [List.length_take]; omega
  rcases h.2 with ⟨h', _⟩ | ⟨g', cap', cur, h', hb', hg, hnc, hcm, hcs, htake⟩
  · simp at h'
  · simp only [Value.slice.injEq, Option.some.injEq, Addr.mk.injEq, and_true, true_and] at h'
    obtain ⟨rfl, rfl⟩ := h'
    unfold OwnD
    rw [hlen]
    refine ⟨by rw [flatD_len _ (fun i hi => hid i (List.mem_of_mem_take hi)), hlen], .inr ⟨g, c, cur, rfl, hb', hg, Nat.le_trans hk hnc, hcm, hcs, ?_⟩⟩
    rw [← flatD_take l hid k hk, ← htake, List.take_take, Nat.min_eq_left (Nat.mul_le_mul_right 20 hk)]
theorem ownD_block {B g n c : Nat} {l : List (List UInt8)} {w : World} (h : OwnD B (.slice (some ⟨g, 0, none⟩) n c) l w) : g < w.heap.size := (World.ownsRow.lt h g rfl).2
theorem ownD_chg {B g n c : Nat} {l : List (List UInt8)} {w u : World} (h : OwnD B (.slice (some ⟨g, 0, none⟩) n c) l w) (hb : u.heap[g]? = w.heap[g]?) : OwnD B (.slice (some ⟨g, 0, none⟩) n c) l u := ownR_same (R := rowI) h (fun k hk => by cases hk; exact hb)
theorem filter_start {q : List UInt8 → Bool} {l : List (List UInt8)} {k : Nat} (hk : k < l.length) (h1 : q l[k] = true) (h2 : ∀ j (hj : j < l.length), j < k → q l[j] = false) : (l.take (k + 1)).filter (fun i => !q i) = l.take k := by
  rw [List.take_add_one, List.getElem?_eq_getElem hk, List.filter_append, List.filter_eq_self.2 (fun x hx => by
    obtain ⟨j, hj, rfl⟩ := List.getElem_of_mem hx
    rw [List.length_take] at hj
    rw [List.getElem_take, h2 j (by omega) (by omega)]
    rfl)]
  simp [h1]
theorem filter_step {q : List UInt8 → Bool} {l : List (List UInt8)} {k : Nat} (hk : k < l.length) : (l.take (k + 1)).filter (fun i => !q i) = (l.take k).filter (fun i => !q i) ++ (if q l[k] then [] else [l[k]]) := by
  rw [List.take_add_one, List.getElem?_eq_getElem hk, List.filter_append]
  congr 1
  cases h : q l[k] <;> simp [h]
set_option maxRecDepth 100000 in
set_option maxHeartbeats 16000000 in
theorem deleteG_some {B g n c k0 : Nat} {l : List (List UInt8)} {w : World} (ho : OwnD B (.slice (some ⟨g, 0, none⟩) n c) l w) (hB : B ≤ g) (hn : n = l.length) (hc : n ≤ c) (hid : ∀ i ∈ l, i.length = 20) (hl : n ≤ 1000000) (f : FuncId) (lb : Array Value) (q : List UInt8 → Bool)
    (eg : ∀ args w, (callFunc f args).run Try.prog w = .ok (.enter f args) w)
    (hf : ∀ u, Chg (fun k => k = g) w u → ∀ i ∈ l, Calls Try.prog f (#[.agg (arrD i)] ++ lb) u fun e u' => e = .returned (.bool (q i)) ∧ Below u.heap.size u u')
    (hk0 : k0 < l.length) (hq0 : q l[k0] = true) (hq1 : ∀ j (hj : j < l.length), j < k0 → q l[j] = false) :
    Calls Try.prog 44 #[.slice (some ⟨g, 0, none⟩) n c, .func (.func f) #[] lb] w fun e w' => ∃ v', e = .returned v' ∧ OwnD B v' (l.filter (fun i => !q i)) w' ∧ Chg (fun k => k = g) w w' := by
  have hrow : RowAt rowI w (some ⟨g, 0, none⟩) l := by
    obtain ⟨a', c', e, _, _, h4, _⟩ := ownR_shape (R := rowI) goodI ho hid
    simp only [Value.slice.injEq] at e
    rw [e.1]
    exact h4
  have hix : idxG q l = (k0 : Int) := by
    unfold idxG
    rw [List.findIdx?_eq_some_iff_getElem.2 ⟨hk0, hq0, fun j hj => by rw [hq1 j (by omega) hj]; decide⟩]
  have CI := indexG_is (some ⟨g, 0, none⟩) n c l w hrow hn hl hid f lb q eg (fun u hu i hi => hf u (Chg.of_below hu) i hi)
  rw [hix] at CI
  have CI := Lib.hid CI
  have hgw := ownD_block ho
  obtain ⟨z, hz0, hzs, hzv, hzb, hz1⟩ := zId_any
  have ZS := Lib.hid hzs
  have hkn : k0 < n := by omega
  have hne1 : ((k0 : Int) == -1) = false := beq_eq_false_iff_ne.2 (by omega)
  have ST := Lib.hid (filter_start hk0 hq0 hq1)
  have HO := Lib.hid ho; have HN := Lib.hid hn; have HID := Lib.hid hid; have HF := Lib.hid hf; have HGW := Lib.hid hgw
  clear ho hn hid hf hrow hix hk0 hq0 hq1 hz0 hzs hzb hz1 hgw
  go_enter Try.func44, Try.ntmps44
  go_wp2_with fail
  refine CI.out.mono ?_
  rintro e w1 ⟨rfl, hb1⟩
  have C1 := Lib.hid (Chg.of_below (S := fun k => k = g) hb1)
  have O1 := Lib.hid (ownD_below HO.out hb1)
  clear hb1 CI
  go_wp2_with fail
  go_loopw [5, 6] (fun iv jv wr => ∃ (i j : Nat) (ys : List (List UInt8)), i < j ∧ j ≤ n ∧ iv = .int .i64 i ∧ jv = .int .i64 j ∧ OwnD B (.slice (some ⟨g, 0, none⟩) n c) ys wr ∧ ys.length = n ∧ (∀ x ∈ ys, x.length = 20) ∧ ys.take i = (l.take j).filter (fun i => !q i) ∧ (∀ t, j ≤ t → ys[t]? = l[t]?) ∧ Chg (fun k => k = g) w wr) (fun _ jv _ => n - (intOf jv).toNat)
  case atStart => exact ⟨k0, k0 + 1, l, by omega, by omega, rfl, by go_num, O1.out, HN.out.symm, HID.out, ST.out.symm, fun _ _ => rfl, C1.out⟩
  case round =>
    clear O1 C1
    obtain ⟨i, j, ys, hij, hj, rfl, rfl, hoy, hyn, hy20, hyt, hyd, hch⟩ := hrel
    have OY := Lib.hid hoy; have YN := Lib.hid hyn; have Y20 := Lib.hid hy20; have YT := Lib.hid hyt; have YD := Lib.hid hyd; have HCH := Lib.hid hch; have HIJ := Lib.hid hij
    clear hyt hyd
    by_cases hlt : j < n
    · have hjl : j < l.length := by rw [← HN.out]; exact hlt
      have hjy : j < ys.length := by rw [YN.out]; exact hlt
      obtain ⟨x, hx⟩ : ∃ x, l[j] = x := ⟨_, rfl⟩
      have hyx : ys[j] = x := by
        have h1 := YD.out j (Nat.le_refl _)
        rw [List.getElem?_eq_getElem hjl, List.getElem?_eq_getElem hjy] at h1
        rw [← hx]
        exact Option.some.inj h1
      have hmem : x ∈ l := by rw [← hx]; exact List.getElem_mem _
      have hx20 : x.length = 20 := HID.out x hmem
      have RX : wr.rangeAt g (j * 20) (cellsD x) := by
        obtain ⟨a', c', e, _, _, h4, _⟩ := ownR_shape (R := rowI) goodI OY.out Y20.out
        simp only [Value.slice.injEq] at e
        rw [← e.1] at h4
        have h5 := h4.elem j hjy
        rw [hyx] at h5
        rw [show j * 20 = 0 + j * rowI.size by show j * 20 = 0 + j * 20; omega]
        exact h5
      have RX := Lib.hid RX
      have LI := Lib.hid (show (Try.prog.info? 32).map (·.size) = some (cellsD x).length by rw [cellsD_len x hx20]; exact infoD_n)
      obtain ⟨A, hA⟩ : ∃ A, (cellsD x).toArray = A := ⟨_, rfl⟩
      have HA := Lib.hid (show arrD x = A from hA)
      have SA := Lib.hid (show A.size = 20 from by rw [← hA]; exact arrD_size x hx20)
      have OA := Lib.hid (show A.all (·.oneCell') = true from by rw [← hA]; exact arrD_one x)
      have IA := Lib.hid (infoD_arr A SA.out)
      have HX20 := Lib.hid hx20; have HMEM := Lib.hid hmem
      have FS := filter_step (q := q) hjl
      rw [hx] at FS
      have FS := Lib.hid FS
      have HLT := Lib.hid hlt
      clear hx hyx hx20 hmem hjy hoy hyn hy20 hch
      generalize cellsD x = ci at *
      go_wp2_with (first
        | (with_reducible refine wpList_load_midD 32 (.tmp 24) rfl (by kernel_rfl) g (j * 20) rfl ci _ RX.out Try.underlying32 rfl LI.out ?_; rw [hA])
        | (with_reducible refine wpList_store_all rfl 32 (.tmp 7) (.tmp 25) rfl wr.heap.size A rfl rfl 32 z (heap_alloc_new wr _) IA.out (SA.out.trans ZS.out.symm) OA.out ?_)
        | fail)
      intro w2 r2 off2 sz2
      have b2 : Below wr.heap.size wr w2 := ((Below.refl wr.heap.size wr).alloc (Nat.le_refl _) (.cells z 32)).trans (off2.below (Nat.le_refl _) (by simp))
      have HC2 := Lib.hid (HCH.out.more (Chg.of_below b2) (fun _ _ h => h))
      have O2 := Lib.hid (ownD_below OY.out b2)
      have R2 := Lib.hid r2
      have CF := HF.out w2 HC2.out x HMEM.out
      rw [HA.out] at CF
      have CF := Lib.hid CF
      obtain ⟨gb, hgb⟩ : ∃ gb, wr.heap.size = gb := ⟨_, rfl⟩
      rw [hgb] at R2 ⊢
      obtain ⟨r, hrr⟩ : ∃ r, q x = r := ⟨_, rfl⟩
      rw [hrr] at CF FS
      clear b2 off2 sz2 r2 hgb hrr
      go_wp2_with (first
        | (with_reducible refine wpList_load_all 32 (.tmp 7) rfl (by kernel_rfl) gb A 32 (0, 0) rfl R2.out _ Try.underlying32 rfl IA.out ?_)
        | fail)
      refine CF.out.mono ?_
      rintro e w3 ⟨rfl, hb3⟩
      have HC3 := Lib.hid (HC2.out.more (Chg.of_below hb3) (fun _ _ h => h))
      have O3 := Lib.hid (ownD_below O2.out hb3)
      have R3 := Lib.hid ((hb3.block gb (lt_of_heap R2.out)).trans R2.out)
      clear hb3 CF
      cases r with
      | true =>
        have YT2 := Lib.hid (show ys.take i = (l.take (j + 1)).filter (fun i => !q i) by rw [FS.out, if_pos rfl, List.append_nil]; exact YT.out)
        go_wp2
        go_roundw
        case rel => exact ⟨i, j + 1, ys, by omega, HLT.out, rfl, by go_num, O3.out, YN.out, Y20.out, YT2.out, fun t ht => YD.out t (by omega), HC3.out⟩
        case measure => have := HLT.out; simp [intOf]; omega
      | false =>
        have hin : i < ys.length := by rw [YN.out]; omega
        have YT2 := Lib.hid (show (ys.set i x).take (i + 1) = (l.take (j + 1)).filter (fun i => !q i) by
          rw [FS.out, List.take_add_one, List.getElem?_set, if_pos rfl, if_pos hin, List.take_set, List.set_eq_of_length_le (by rw [List.length_take]; omega), YT.out]
          rfl)
        have HIN := Lib.hid hin
        have gin : (i : Int) < (n : Int) := by omega
        clear hin
        go_wp2_with (first
          | (with_reducible refine wpList_load_all 32 (.tmp 7) rfl (by kernel_rfl) gb A 32 (0, 0) rfl R3.out _ Try.underlying32 rfl IA.out ?_)
          | (refine wpList_store_idD rfl _ _ rfl B g c i _ ys Y20.out x A HA.out.symm rfl rfl rfl HIN.out HX20.out (by rw [YN.out]; exact O3.out) ?_)
          | fail)
        intro w4 o4 g4
        have HC4 := Lib.hid (HC3.out.grown g4 (fun k hk _ => by cases hk; rfl))
        have O4 := Lib.hid (show OwnD B (.slice (some ⟨g, 0, none⟩) n c) (ys.set i x) w4 by rw [YN.out] at o4; exact o4)
        clear o4 g4
        go_wp2
        go_roundw
        case rel =>
          refine ⟨i + 1, j + 1, ys.set i x, by omega, HLT.out, by go_num, by go_num, O4.out, by rw [List.length_set]; exact YN.out, set_idsD Y20.out i HX20.out, YT2.out, fun t ht => ?_, HC4.out⟩
          have := HIJ.out
          rw [List.getElem?_set, if_neg (by omega)]
          exact YD.out t (by omega)
        case measure => have := HLT.out; simp [intOf]; omega
    · obtain rfl : j = n := by omega
      obtain ⟨w2, hcl, ho2, hg2⟩ := clear_ids OY.out YN.out.symm Y20.out i HIJ.out (c - i)
      have h1 := ids_tail g j c i HIJ.out hc
      have h2 := ids_head (some ⟨g, 0, none⟩) j c i (by omega)
      have HC2 := Lib.hid (HCH.out.grown hg2 (fun k hk _ => by cases hk; rfl))
      have hlen : j = (ys.take i ++ List.replicate (j - i) idZ).length := by rw [List.length_append, List.length_take, List.length_replicate, YN.out]; omega
      have ho3 := ownD_cut ho2 hlen (fun x hx => by
        rcases List.mem_append.1 hx with hx | hx
        · exact Y20.out x (List.mem_of_mem_take hx)
        · rw [List.eq_of_mem_replicate hx]; rfl) i (by omega)
      have O3 := Lib.hid (show OwnD B (.slice (some ⟨g, 0, none⟩) i c) (l.filter (fun i => !q i)) w2 by
        rw [List.take_left' (by rw [List.length_take, YN.out]; omega), YT.out, List.take_of_length_le (by rw [← HN.out]; exact Nat.le_refl _)] at ho3
        exact ho3)
      clear ho2 hg2 ho3 hoy hyn hy20 hch hlen
      go_wp2
      go_ret
      exact ⟨_, rfl, O3.out, HC2.out⟩
theorem deleteG_none {B : Nat} {v : Value} {l : List (List UInt8)} {w : World} (ho : OwnD B v l w) (hid : ∀ i ∈ l, i.length = 20) (hl : l.length ≤ 1000000) (f : FuncId) (lb : Array Value) (q : List UInt8 → Bool)
    (eg : ∀ args w, (callFunc f args).run Try.prog w = .ok (.enter f args) w)
    (hf : ∀ u, Below w.heap.size w u → ∀ i ∈ l, Calls Try.prog f (#[.agg (arrD i)] ++ lb) u fun e u' => e = .returned (.bool (q i)) ∧ Below u.heap.size u u')
    (hq : ∀ i ∈ l, q i = false) :
    Calls Try.prog 44 #[v, .func (.func f) #[] lb] w fun e w' => e = .returned v ∧ OwnD B v (l.filter (fun i => !q i)) w' ∧ Below w.heap.size w w' := by
  obtain ⟨a, c, rfl, hc, hm, hrow, hn⟩ := ownD_ids ho hid
  have hix : idxG q l = -1 := by
    unfold idxG
    rw [List.findIdx?_eq_none_iff.2 hq]
  have CI := indexG_is a l.length c l w hrow rfl hl hid f lb q eg hf
  rw [hix] at CI
  have CI := Lib.hid CI
  have FE := Lib.hid (show l.filter (fun i => !q i) = l from List.filter_eq_self.2 (fun x hx => by rw [hq x hx]; rfl))
  have HO := Lib.hid ho
  clear hf ho hix hq hid hrow hn
  generalize l.length = n at *
  go_enter Try.func44, Try.ntmps44
  go_wp2_with fail
  refine CI.out.mono ?_
  rintro e w1 ⟨rfl, hb1⟩
  have O1 := Lib.hid (ownD_below HO.out hb1)
  have B1 := Lib.hid hb1
  clear hb1 CI
  go_wp2
  go_ret
  exact ⟨rfl, by rw [FE.out]; exact O1.out, B1.out⟩
theorem deleteG_is {B : Nat} {v : Value} {l : List (List UInt8)} {w : World} (ho : OwnD B v l w) (hid : ∀ i ∈ l, i.length = 20) (hl : l.length ≤ 1000000) (f : FuncId) (lb : Array Value) (q : List UInt8 → Bool)
    (eg : ∀ args w, (callFunc f args).run Try.prog w = .ok (.enter f args) w)
    (hf : ∀ u, Chg (fun k => v.ownBlock = some k) w u → ∀ i ∈ l, Calls Try.prog f (#[.agg (arrD i)] ++ lb) u fun e u' => e = .returned (.bool (q i)) ∧ Below u.heap.size u u') :
    Calls Try.prog 44 #[v, .func (.func f) #[] lb] w fun e w' => ∃ v', e = .returned v' ∧ OwnD B v' (l.filter (fun i => !q i)) w' ∧ Chg (fun k => v.ownBlock = some k) w w' := by
  cases hx : l.findIdx? q with
  | none =>
    have hq := List.findIdx?_eq_none_iff.1 hx
    refine (deleteG_none ho hid hl f lb q eg (fun u hu i hi => hf u (Chg.of_below hu) i hi) hq).mono ?_
    rintro e w' ⟨rfl, h1, h2⟩
    exact ⟨_, rfl, h1, Chg.of_below h2⟩
  | some k =>
    obtain ⟨hk, h1, h2⟩ := List.findIdx?_eq_some_iff_getElem.1 hx
    obtain ⟨a, c, e, hc, hm, hrow, hn, hb⟩ := ownR_shape (R := rowI) goodI ho hid
    cases a with
    | none =>
      have := (hn rfl).1
      omega
    | some ad =>
      obtain ⟨b1, b2, b3⟩ := hb ad rfl
      obtain ⟨g, o, e2, _⟩ := hrow.some (by omega)
      cases e2
      simp only at b2
      subst b2
      subst e
      refine (deleteG_some ho b1 rfl hc hid hl f lb q eg (fun u hu i hi => hf u (hu.weak (fun j _ hj => by rw [hj]; rfl)) i hi) hk h1 (fun j hj hjk => by
        have := h2 j hjk
        cases e3 : q l[j]
        · rfl
        · rw [e3] at this; exact absurd rfl this)).mono ?_
      rintro e w' ⟨v', rfl, h3, h4⟩
      exact ⟨v', rfl, h3, h4.weak (fun j _ hj => by rw [hj]; rfl)⟩
end Go.Proofs.Ytajmgjhknmkfpaa
