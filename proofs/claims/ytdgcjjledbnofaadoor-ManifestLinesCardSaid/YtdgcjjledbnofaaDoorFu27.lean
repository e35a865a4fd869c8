/-
  Texts that belong together, one behind the other.
-/
import Derived.Test.YtdgcjjledbnofaaDoorFu19
import Derived.Test.YtdgcjjledbnofaaDoorFu22
import Derived.Test.YtdgcjjledbnofaaDoorFu26
import Derived.Test.YtdgcjjledbnofaaDoorFu06
import Derived.Test.YtdgcjjledbnofaaDoorFu04
import Derived.Deep.QuietTactic
import Derived.BigQuiet
import Derived.IntWalk
import Derived.WalkSmall
/-
  Layer 13, the document's answers: which lists of files are valid.
-/
namespace Go.Proofs.YtdgcjjledbnofaaDoor
set_option maxRecDepth 20000
open Go.RowKit
set_option linter.unusedVariables false
set_option linter.unusedSimpArgs false

theorem leq_mk (x y : List UInt8) : (Op.bytesLess (⟨x.toArray⟩ : ByteArray).toList (⟨y.toArray⟩ : ByteArray).toList || ((⟨x.toArray⟩ : ByteArray).toList == (⟨y.toArray⟩ : ByteArray).toList)) = !decide (y < x) := by
  rw [less_mk, toList_mk, toList_mk]
  by_cases h1 : y < x
  · have h2 : ¬ x < y := fun h => List.lt_irrefl _ (List.lt_trans h h1)
    have h3 : x ≠ y := fun h => by rw [h] at h1; exact List.lt_irrefl _ h1
    simp [h1, h2, h3]
  · by_cases h3 : x = y
    · subst h3; simp [h1]
    · have h2 := lt_of_not h1 (fun e => h3 e.symm)
      simp [h1, h2]
theorem prefix_take (p t : List UInt8) : (p.take t.length == t) = t.isPrefixOf p := by
  rw [Bool.eq_iff_iff, List.isPrefixOf_iff_prefix, beq_iff_eq]
  constructor
  · intro h
    have := List.take_append_drop t.length p
    rw [h] at this
    exact ⟨p.drop t.length, this⟩
  · rintro ⟨x, rfl⟩
    simp
set_option maxHeartbeats 64000000 in
theorem rfRight_some (b o n c : Nat) (l : List Fil) (w : World) (hn : n = l.length) (hm : n ≤ 1000000) (hat : 0 < n → FilesAt w (some ⟨b, o, none⟩) l) (hid : ∀ i ∈ l, i.id.length = 20) (hnm : ∀ i ∈ l, i.path.length ≤ 100000) (tab : QTab w) :
    Calls Tryd.prog 21 #[.slice (some ⟨b, o, none⟩) n c] w fun e w' => e = .returned (.bool (rightF l)) ∧ Below w.heap.size w w' := by
  have HN := Lib.hid hn; have HAT := Lib.hid hat; have HID := Lib.hid hid; have HNM := Lib.hid hnm; have TB := Lib.hid tab
  obtain ⟨R, hR⟩ : ∃ R, rightF l = R := ⟨_, rfl⟩
  have BAD := Lib.hid (fun i hi h => hR.symm.trans (rightF_step l i hi h))
  have LONG := Lib.hid (fun h => hR.symm.trans (rightF_len l h))
  have GOOD := Lib.hid (fun h => hR.symm.trans ((rightF_iff l).2 h))
  rw [hR]
  obtain ⟨zd, hzd, hzds, hzdv, hzdb, hzd1⟩ := zId_any
  have HZD := Lib.hid hzd
  clear hn hat hid hnm tab hR hzd hzds hzd1
  go_enter Tryd.func21, Tryd.ntmps21
  go_wp2_with fail
  go_loopw [3, 4] (fun v3 _ wr => ∃ i : Nat, i ≤ n ∧ v3 = .int .i64 i ∧ (∀ j, j < i → stepF l j = true) ∧ Below w.heap.size w wr) (fun v3 _ _ => n - (intOf v3).toNat)
  case atStart => exact ⟨0, Nat.zero_le _, rfl, fun j hj => absurd hj (Nat.not_lt_zero _), Below.refl _ _⟩
  case round =>
    obtain ⟨i, hi, rfl, hst, hbr⟩ := hrel
    have HST := Lib.hid hst
    have HBR := Lib.hid hbr
    clear hst hbr
    by_cases hlt : i < n
    · have hil : i < l.length := by rw [← HN.out]; exact hlt
      have hat := HAT.out (by omega)
      have hbl := hat.lt (by omega)
      obtain ⟨x, hx2⟩ : ∃ x, l[i] = x := ⟨_, rfl⟩
      have hxm : x ∈ l := by rw [← hx2]; exact List.getElem_mem _
      have hidx := HID.out x hxm
      have hnx := HNM.out x hxm
      have rx : ∀ u, Below wr.heap.size wr u → u.rangeAt b (o + i * 22) (cellsF x) := fun u hu j v hv => ((HBR.out.trans (hu.mono HBR.out.size)).cell (p := ⟨b, o + i * 22 + j, none⟩) hbl).trans (hat.elem i hil j v (by rw [hx2]; exact hv))
      have DPA := Lib.hid (fun u (hu : Below wr.heap.size wr u) => rPath_is x.path u (by omega) (fun w' hb => valid_is x.path w' (by omega) (Utf8Tabs_below (TB.out.below (HBR.out.trans (hu.mono HBR.out.size))).utf hb)))
      have hstp : stepF l i = (soundF x && (i == 0 || decide ((l.getD (i - 1) noF).path < x.path)) && clearF l i) := by unfold stepF; rw [getD_fil l i hil, hx2]
      rw [show soundF x = (decide (1 ≤ x.mode) && decide (x.mode ≤ 3) && pathL x.path && !(x.id == zeroId)) from rfl] at hstp
      obtain ⟨sx, hsx⟩ : ∃ sx : ByteArray, ⟨x.path.toArray⟩ = sx := ⟨_, rfl⟩
      obtain ⟨mo, hmo⟩ : ∃ m, x.mode = m := ⟨_, rfl⟩
      have C0 := Lib.hid (show ∀ u, Below wr.heap.size wr u → u.cell? ⟨b, o + i * 22, none⟩ = some (.string sx) from fun u hu => by rw [← hsx]; exact rx u hu 0 _ rfl)
      have C1 := Lib.hid (show ∀ u, Below wr.heap.size wr u → u.cell? ⟨b, o + i * 22 + 1, none⟩ = some (.int .i64 mo) from fun u hu => by rw [← hmo]; exact rx u hu 1 _ rfl)
      have LI := Lib.hid (show (Tryd.prog.info? 26).map (·.size) = some (cellsD x.id).length by rw [cellsD_len _ hidx]; exact info29)
      have R2 := Lib.hid (show ∀ u, Below wr.heap.size wr u → u.rangeAt b (o + i * 22 + 2) (cellsD x.id) from fun u hu j v hv => by rw [Nat.add_assoc]; exact rx u hu (2 + j) v (by rw [Nat.add_comm]; exact hv))
      have EQ0 := fun w => eql_idv w x.id zeroId hidx rfl
      obtain ⟨ci, hci⟩ : ∃ c, cellsD x.id = c := ⟨_, rfl⟩
      rw [show idv x.id = .agg ci.toArray by rw [← hci]; rfl, show idv zeroId = .agg zd by rw [HZD.out]; rfl] at EQ0
      rw [hci] at LI R2
      obtain ⟨ZB, hZB⟩ : ∃ z, (x.id == zeroId) = z := ⟨_, rfl⟩
      rw [hZB] at EQ0 hstp
      have EQ := Lib.hid EQ0
      rw [hsx] at DPA
      rw [hmo] at hstp
      obtain ⟨pb, hpb⟩ : ∃ pb, pathL x.path = pb := ⟨_, rfl⟩
      rw [hpb] at DPA hstp
      have HSTP := Lib.hid hstp; have HIL := Lib.hid hil; have HSX := Lib.hid hsx; have HX2 := Lib.hid (show (l.getD i noF).path = x.path by rw [getD_fil l i hil, hx2])
      have HNX := Lib.hid hnx; have HATI := Lib.hid hat; have HBL := Lib.hid hbl
      clear hil hat hbl hx2 hxm hidx hnx rx hstp hsx hmo EQ0 hci hZB hpb
      go_wp2_with fail
      cases pb with
      | false =>
        refine wp_region_held_drew (S := fun u => Below wr.heap.size wr u) (by kernel_rfl) (Below.refl _ _).drew (fun hHeld => ?_)
        refine tkW 0 rfl hHeld ?_
        refine tkW 1 rfl hHeld ?_
        refine tkW 2 rfl hHeld ?_
        refine tkW 3 rfl hHeld ?_
        refine tkV 4 rfl (.string sx) (fun u hu => by have q := C0.out u hu; go_simp) hHeld ?_
        refine rdH 5 rfl (fun K hK => ?_)
        go_simp
        refine (DPA.out _ hHeld).mono ?_
        rintro e u1 ⟨rfl, hb⟩
        have hH := hHeld.trans (hb.mono hHeld.size)
        clear hHeld hb
        refine hK.out _ _ hH (fun hHeld => ?_)
        clear hK K
        try simp only [Act.put, List.setIfInBounds_toArray, List.set_cons_zero, List.set_cons_succ]
        refine tkW 6 rfl hHeld ?_
        refine tkW 7 rfl hHeld ?_
        refine tkU 8 rfl hHeld ?_
        refine tkU 9 rfl hHeld ?_
        refine tkU 10 rfl hHeld ?_
        refine tkU 11 rfl hHeld ?_
        refine tkU 12 rfl hHeld ?_
        refine tkU 13 rfl hHeld ?_
        refine tkW 14 rfl hHeld ?_
        refine tkW 15 rfl hHeld ?_
        refine tkU 16 rfl hHeld ?_
        refine tkU 17 rfl hHeld ?_
        refine tkU 18 rfl hHeld ?_
        refine tkU 19 rfl hHeld ?_
        refine tkU 20 rfl hHeld ?_
        refine tkU 21 rfl hHeld ?_
        refine tkW 22 rfl hHeld ?_
        refine tkW 23 rfl hHeld ?_
        refine tkU 24 rfl hHeld ?_
        refine tkU 25 rfl hHeld ?_
        refine tkU 26 rfl hHeld ?_
        refine tkU 27 rfl hHeld ?_
        refine tkU 28 rfl hHeld ?_
        refine tkU 29 rfl hHeld ?_
        refine tkU 30 rfl hHeld ?_
        refine tkW 31 rfl hHeld ?_
        refine tkW 32 rfl hHeld ?_
        refine tkU 33 rfl hHeld ?_
        refine tkU 34 rfl hHeld ?_
        refine tkU 35 rfl hHeld ?_
        refine tkU 36 rfl hHeld ?_
        refine tkU 37 rfl hHeld ?_
        refine tkU 38 rfl hHeld ?_
        refine tkU 39 rfl hHeld ?_
        refine tkU 40 rfl hHeld ?_
        refine tkU 41 rfl hHeld ?_
        refine tkU 42 rfl hHeld ?_
        refine tkU 43 rfl hHeld ?_
        refine tkU 44 rfl hHeld ?_
        refine tkU 45 rfl hHeld ?_
        refine tkU 46 rfl hHeld ?_
        refine tkU 47 rfl hHeld ?_
        refine tkU 48 rfl hHeld ?_
        refine tkW 49 rfl hHeld ?_
        try simp only [Act.put, List.getElem_toArray, List.getElem_cons_succ, List.getElem_cons_zero, lsA, lsZ, lsS]
        refine wpAnyH_done (by kernel_rfl) ?_ _
        have hR : false = R := (BAD.out i HIL.out (by rw [HSTP.out]; simp)).symm
        subst hR
        have HBU := Lib.hid (HBR.out.trans (hHeld.mono HBR.out.size))
        clear hHeld
        go_wp2
        go_ret
        exact ⟨rfl, HBU.out⟩
      | true =>
        by_cases m1 : mo < 1
        · refine wp_region_held_drew (S := fun u => Below wr.heap.size wr u) (by kernel_rfl) (Below.refl _ _).drew (fun hHeld => ?_)
          refine tkW 0 rfl hHeld ?_
          refine tkW 1 rfl hHeld ?_
          refine tkW 2 rfl hHeld ?_
          refine tkW 3 rfl hHeld ?_
          refine tkV 4 rfl (.string sx) (fun u hu => by have q := C0.out u hu; go_simp) hHeld ?_
          refine rdH 5 rfl (fun K hK => ?_)
          go_simp
          refine (DPA.out _ hHeld).mono ?_
          rintro e u1 ⟨rfl, hb⟩
          have hH := hHeld.trans (hb.mono hHeld.size)
          clear hHeld hb
          refine hK.out _ _ hH (fun hHeld => ?_)
          clear hK K
          try simp only [Act.put, List.setIfInBounds_toArray, List.set_cons_zero, List.set_cons_succ]
          refine tkW 6 rfl hHeld ?_
          refine tkW 7 rfl hHeld ?_
          refine tkW 8 rfl hHeld ?_
          refine tkW 9 rfl hHeld ?_
          refine tkW 10 rfl hHeld ?_
          refine tkW 11 rfl hHeld ?_
          refine tkV 12 rfl (.int .i64 mo) (fun u hu => by have q := C1.out u hu; go_simp) hHeld ?_
          refine tkW 13 rfl hHeld ?_
          refine tkW 14 rfl hHeld ?_
          refine tkW 15 rfl hHeld ?_
          refine tkU 16 rfl hHeld ?_
          refine tkU 17 rfl hHeld ?_
          refine tkU 18 rfl hHeld ?_
          refine tkU 19 rfl hHeld ?_
          refine tkU 20 rfl hHeld ?_
          refine tkU 21 rfl hHeld ?_
          refine tkW 22 rfl hHeld ?_
          refine tkW 23 rfl hHeld ?_
          refine tkU 24 rfl hHeld ?_
          refine tkU 25 rfl hHeld ?_
          refine tkU 26 rfl hHeld ?_
          refine tkU 27 rfl hHeld ?_
          refine tkU 28 rfl hHeld ?_
          refine tkU 29 rfl hHeld ?_
          refine tkU 30 rfl hHeld ?_
          refine tkW 31 rfl hHeld ?_
          refine tkW 32 rfl hHeld ?_
          refine tkU 33 rfl hHeld ?_
          refine tkU 34 rfl hHeld ?_
          refine tkU 35 rfl hHeld ?_
          refine tkU 36 rfl hHeld ?_
          refine tkU 37 rfl hHeld ?_
          refine tkU 38 rfl hHeld ?_
          refine tkU 39 rfl hHeld ?_
          refine tkU 40 rfl hHeld ?_
          refine tkU 41 rfl hHeld ?_
          refine tkU 42 rfl hHeld ?_
          refine tkU 43 rfl hHeld ?_
          refine tkU 44 rfl hHeld ?_
          refine tkU 45 rfl hHeld ?_
          refine tkU 46 rfl hHeld ?_
          refine tkU 47 rfl hHeld ?_
          refine tkU 48 rfl hHeld ?_
          refine tkW 49 rfl hHeld ?_
          try simp only [Act.put, List.getElem_toArray, List.getElem_cons_succ, List.getElem_cons_zero, lsA, lsZ, lsS]
          refine wpAnyH_done (by kernel_rfl) ?_ _
          have hR : false = R := (BAD.out i HIL.out (by rw [HSTP.out]; simp [show ¬ (1 ≤ mo) by omega])).symm
          subst hR
          have HBU := Lib.hid (HBR.out.trans (hHeld.mono HBR.out.size))
          clear hHeld
          go_wp2
          go_ret
          exact ⟨rfl, HBU.out⟩
        by_cases m3 : mo > 3
        · refine wp_region_held_drew (S := fun u => Below wr.heap.size wr u) (by kernel_rfl) (Below.refl _ _).drew (fun hHeld => ?_)
          refine tkW 0 rfl hHeld ?_
          refine tkW 1 rfl hHeld ?_
          refine tkW 2 rfl hHeld ?_
          refine tkW 3 rfl hHeld ?_
          refine tkV 4 rfl (.string sx) (fun u hu => by have q := C0.out u hu; go_simp) hHeld ?_
          refine rdH 5 rfl (fun K hK => ?_)
          go_simp
          refine (DPA.out _ hHeld).mono ?_
          rintro e u1 ⟨rfl, hb⟩
          have hH := hHeld.trans (hb.mono hHeld.size)
          clear hHeld hb
          refine hK.out _ _ hH (fun hHeld => ?_)
          clear hK K
          try simp only [Act.put, List.setIfInBounds_toArray, List.set_cons_zero, List.set_cons_succ]
          refine tkW 6 rfl hHeld ?_
          refine tkW 7 rfl hHeld ?_
          refine tkW 8 rfl hHeld ?_
          refine tkW 9 rfl hHeld ?_
          refine tkW 10 rfl hHeld ?_
          refine tkW 11 rfl hHeld ?_
          refine tkV 12 rfl (.int .i64 mo) (fun u hu => by have q := C1.out u hu; go_simp) hHeld ?_
          refine tkW 13 rfl hHeld ?_
          refine tkW 14 rfl hHeld ?_
          refine tkW 15 rfl hHeld ?_
          refine tkW 16 rfl hHeld ?_
          refine tkW 17 rfl hHeld ?_
          refine tkW 18 rfl hHeld ?_
          refine tkW 19 rfl hHeld ?_
          refine tkV 20 rfl (.int .i64 mo) (fun u hu => by have q := C1.out u hu; go_simp) hHeld ?_
          refine tkW 21 rfl hHeld ?_
          refine tkW 22 rfl hHeld ?_
          refine tkW 23 rfl hHeld ?_
          refine tkU 24 rfl hHeld ?_
          refine tkU 25 rfl hHeld ?_
          refine tkU 26 rfl hHeld ?_
          refine tkU 27 rfl hHeld ?_
          refine tkU 28 rfl hHeld ?_
          refine tkU 29 rfl hHeld ?_
          refine tkU 30 rfl hHeld ?_
          refine tkW 31 rfl hHeld ?_
          refine tkW 32 rfl hHeld ?_
          refine tkU 33 rfl hHeld ?_
          refine tkU 34 rfl hHeld ?_
          refine tkU 35 rfl hHeld ?_
          refine tkU 36 rfl hHeld ?_
          refine tkU 37 rfl hHeld ?_
          refine tkU 38 rfl hHeld ?_
          refine tkU 39 rfl hHeld ?_
          refine tkU 40 rfl hHeld ?_
          refine tkU 41 rfl hHeld ?_
          refine tkU 42 rfl hHeld ?_
          refine tkU 43 rfl hHeld ?_
          refine tkU 44 rfl hHeld ?_
          refine tkU 45 rfl hHeld ?_
          refine tkU 46 rfl hHeld ?_
          refine tkU 47 rfl hHeld ?_
          refine tkU 48 rfl hHeld ?_
          refine tkW 49 rfl hHeld ?_
          try simp only [Act.put, List.getElem_toArray, List.getElem_cons_succ, List.getElem_cons_zero, lsA, lsZ, lsS]
          refine wpAnyH_done (by kernel_rfl) ?_ _
          have hR : false = R := (BAD.out i HIL.out (by rw [HSTP.out]; simp [show ¬ (mo ≤ 3) by omega])).symm
          subst hR
          have HBU := Lib.hid (HBR.out.trans (hHeld.mono HBR.out.size))
          clear hHeld
          go_wp2
          go_ret
          exact ⟨rfl, HBU.out⟩
        cases ZB with
        | true =>
          refine wp_region_held_drew (S := fun u => Below wr.heap.size wr u) (by kernel_rfl) (Below.refl _ _).drew (fun hHeld => ?_)
          refine tkW 0 rfl hHeld ?_
          refine tkW 1 rfl hHeld ?_
          refine tkW 2 rfl hHeld ?_
          refine tkW 3 rfl hHeld ?_
          refine tkV 4 rfl (.string sx) (fun u hu => by have q := C0.out u hu; go_simp) hHeld ?_
          refine rdH 5 rfl (fun K hK => ?_)
          go_simp
          refine (DPA.out _ hHeld).mono ?_
          rintro e u1 ⟨rfl, hb⟩
          have hH := hHeld.trans (hb.mono hHeld.size)
          clear hHeld hb
          refine hK.out _ _ hH (fun hHeld => ?_)
          clear hK K
          try simp only [Act.put, List.setIfInBounds_toArray, List.set_cons_zero, List.set_cons_succ]
          refine tkW 6 rfl hHeld ?_
          refine tkW 7 rfl hHeld ?_
          refine tkW 8 rfl hHeld ?_
          refine tkW 9 rfl hHeld ?_
          refine tkW 10 rfl hHeld ?_
          refine tkW 11 rfl hHeld ?_
          refine tkV 12 rfl (.int .i64 mo) (fun u hu => by have q := C1.out u hu; go_simp) hHeld ?_
          refine tkW 13 rfl hHeld ?_
          refine tkW 14 rfl hHeld ?_
          refine tkW 15 rfl hHeld ?_
          refine tkW 16 rfl hHeld ?_
          refine tkW 17 rfl hHeld ?_
          refine tkW 18 rfl hHeld ?_
          refine tkW 19 rfl hHeld ?_
          refine tkV 20 rfl (.int .i64 mo) (fun u hu => by have q := C1.out u hu; go_simp) hHeld ?_
          refine tkW 21 rfl hHeld ?_
          refine tkW 22 rfl hHeld ?_
          refine tkW 23 rfl hHeld ?_
          refine tkW 24 rfl hHeld ?_
          refine tkW 25 rfl hHeld ?_
          refine tkW 26 rfl hHeld ?_
          refine tkW 27 rfl hHeld ?_
          refine tkH 28 rfl (yieldsIf_load_mid (by kernel_rfl) 26 (.tmp 38) (by kernel_rfl) b (o + i * 22 + 2) (by kernel_rfl) ci _ (fun u hu => R2.out u hu) Tryd.underlying26 rfl LI.out) hHeld ?_
          refine tkH 29 rfl (yields_build0 (by kernel_rfl) 26 (by kernel_rfl) zd hzdb) hHeld ?_
          refine tkH 30 rfl (yields_eql (by kernel_rfl) 26 26 (.tmp 39) (.tmp 40) (by kernel_rfl) ci.toArray zd (by kernel_rfl) (by kernel_rfl) (by kernel_rfl) true EQ.out) hHeld ?_
          refine tkW 31 rfl hHeld ?_
          refine tkW 32 rfl hHeld ?_
          refine tkU 33 rfl hHeld ?_
          refine tkU 34 rfl hHeld ?_
          refine tkU 35 rfl hHeld ?_
          refine tkU 36 rfl hHeld ?_
          refine tkU 37 rfl hHeld ?_
          refine tkU 38 rfl hHeld ?_
          refine tkU 39 rfl hHeld ?_
          refine tkU 40 rfl hHeld ?_
          refine tkU 41 rfl hHeld ?_
          refine tkU 42 rfl hHeld ?_
          refine tkU 43 rfl hHeld ?_
          refine tkU 44 rfl hHeld ?_
          refine tkU 45 rfl hHeld ?_
          refine tkU 46 rfl hHeld ?_
          refine tkU 47 rfl hHeld ?_
          refine tkU 48 rfl hHeld ?_
          refine tkW 49 rfl hHeld ?_
          try simp only [Act.put, List.getElem_toArray, List.getElem_cons_succ, List.getElem_cons_zero, lsA, lsZ, lsS]
          refine wpAnyH_done (by kernel_rfl) ?_ _
          have hR : false = R := (BAD.out i HIL.out (by rw [HSTP.out]; simp)).symm
          subst hR
          have HBU := Lib.hid (HBR.out.trans (hHeld.mono HBR.out.size))
          clear hHeld
          go_wp2
          go_ret
          exact ⟨rfl, HBU.out⟩
        | false =>
          have HSTQ := Lib.hid (show stepF l i = ((i == 0 || decide ((l.getD (i - 1) noF).path < x.path)) && clearF l i) by rw [HSTP.out, decide_eq_true (show 1 ≤ mo by omega), decide_eq_true (show mo ≤ 3 by omega)]; rfl)
          by_cases hi0 : i = 0
          case' pos =>
            have hz2 : ¬ 0 < i := by omega
            have HSTR := Lib.hid (show stepF l i = clearF l i by rw [HSTQ.out, show (i == 0) = true by simp [hi0]]; rfl)
            clear hi0
            refine wp_region_held_drew (S := fun u => Below wr.heap.size wr u) (by kernel_rfl) (Below.refl _ _).drew (fun hHeld => ?_)
            refine tkW 0 rfl hHeld ?_
            refine tkW 1 rfl hHeld ?_
            refine tkW 2 rfl hHeld ?_
            refine tkW 3 rfl hHeld ?_
            refine tkV 4 rfl (.string sx) (fun u hu => by have q := C0.out u hu; go_simp) hHeld ?_
            refine rdH 5 rfl (fun K hK => ?_)
            go_simp
            refine (DPA.out _ hHeld).mono ?_
            rintro e u1 ⟨rfl, hb⟩
            have hH := hHeld.trans (hb.mono hHeld.size)
            clear hHeld hb
            refine hK.out _ _ hH (fun hHeld => ?_)
            clear hK K
            try simp only [Act.put, List.setIfInBounds_toArray, List.set_cons_zero, List.set_cons_succ]
            refine tkW 6 rfl hHeld ?_
            refine tkW 7 rfl hHeld ?_
            refine tkW 8 rfl hHeld ?_
            refine tkW 9 rfl hHeld ?_
            refine tkW 10 rfl hHeld ?_
            refine tkW 11 rfl hHeld ?_
            refine tkV 12 rfl (.int .i64 mo) (fun u hu => by have q := C1.out u hu; go_simp) hHeld ?_
            refine tkW 13 rfl hHeld ?_
            refine tkW 14 rfl hHeld ?_
            refine tkW 15 rfl hHeld ?_
            refine tkW 16 rfl hHeld ?_
            refine tkW 17 rfl hHeld ?_
            refine tkW 18 rfl hHeld ?_
            refine tkW 19 rfl hHeld ?_
            refine tkV 20 rfl (.int .i64 mo) (fun u hu => by have q := C1.out u hu; go_simp) hHeld ?_
            refine tkW 21 rfl hHeld ?_
            refine tkW 22 rfl hHeld ?_
            refine tkW 23 rfl hHeld ?_
            refine tkW 24 rfl hHeld ?_
            refine tkW 25 rfl hHeld ?_
            refine tkW 26 rfl hHeld ?_
            refine tkW 27 rfl hHeld ?_
            refine tkH 28 rfl (yieldsIf_load_mid (by kernel_rfl) 26 (.tmp 38) (by kernel_rfl) b (o + i * 22 + 2) (by kernel_rfl) ci _ (fun u hu => R2.out u hu) Tryd.underlying26 rfl LI.out) hHeld ?_
            refine tkH 29 rfl (yields_build0 (by kernel_rfl) 26 (by kernel_rfl) zd hzdb) hHeld ?_
            refine tkH 30 rfl (yields_eql (by kernel_rfl) 26 26 (.tmp 39) (.tmp 40) (by kernel_rfl) ci.toArray zd (by kernel_rfl) (by kernel_rfl) (by kernel_rfl) false EQ.out) hHeld ?_
            refine tkW 31 rfl hHeld ?_
            refine tkW 32 rfl hHeld ?_
            refine tkW 33 rfl hHeld ?_
            refine tkW 34 rfl hHeld ?_
            refine tkW 35 rfl hHeld ?_
            refine tkU 36 rfl hHeld ?_
            refine tkU 37 rfl hHeld ?_
            refine tkU 38 rfl hHeld ?_
            refine tkU 39 rfl hHeld ?_
            refine tkU 40 rfl hHeld ?_
            refine tkU 41 rfl hHeld ?_
            refine tkU 42 rfl hHeld ?_
            refine tkU 43 rfl hHeld ?_
            refine tkU 44 rfl hHeld ?_
            refine tkU 45 rfl hHeld ?_
            refine tkU 46 rfl hHeld ?_
            refine tkU 47 rfl hHeld ?_
            refine tkW 48 rfl hHeld ?_
            refine tkW 49 rfl hHeld ?_
            try simp only [Act.put, List.getElem_toArray, List.getElem_cons_succ, List.getElem_cons_zero, lsA, lsZ, lsS]
            refine wpAnyH_done (by kernel_rfl) ?_ _
            have HBU := Lib.hid (HBR.out.trans (hHeld.mono HBR.out.size))
            clear hHeld
          case' neg =>
            have hp : i - 1 < l.length := by have := HIL.out; omega
            obtain ⟨q, hpi⟩ : ∃ q, q + 1 = i := ⟨i - 1, by omega⟩
            obtain ⟨y, hy⟩ : ∃ y, l[i - 1] = y := ⟨_, rfl⟩
            have hyp : l.getD (i - 1) noF = y := by rw [getD_fil l _ hp]; exact hy
            have hw : IntKind.i64.wrap ((i : Int) - 1) = (q : Int) := by rw [IntWalk.i64_in _ (by omega)]; omega
            have hpn : q < n := by omega
            obtain ⟨sp, hsp⟩ : ∃ sp : ByteArray, ⟨y.path.toArray⟩ = sp := ⟨_, rfl⟩
            have CP := Lib.hid (show ∀ u, Below wr.heap.size wr u → u.cell? ⟨b, o + q * 22, none⟩ = some (.string sp) from fun u hu => ((HBR.out.trans (hu.mono HBR.out.size)).cell (p := ⟨b, o + q * 22, none⟩) HBL.out).trans (HATI.out.elem q (by have := HIL.out; omega) 0 _ (by rw [show l[q]'(by have := HIL.out; omega) = y by rw [← hy]; congr 1; omega]; rw [← hsp]; rfl)))
            have hle := leq_mk x.path y.path
            rw [hsp, HSX.out] at hle
            obtain ⟨r, hr⟩ : ∃ r, decide (y.path < x.path) = r := ⟨_, rfl⟩
            rw [hr] at hle
            have HLE := Lib.hid hle
            have hpos : 0 < i := by omega
            have HSTR0 := Lib.hid (show stepF l i = (r && clearF l i) by rw [HSTQ.out, hyp, hr, show (i == 0) = false by exact beq_false_of_ne hi0]; rfl)
            clear hyp hsp hy hp hle hr hi0
            refine wp_region_held_drew (S := fun u => Below wr.heap.size wr u) (by kernel_rfl) (Below.refl _ _).drew (fun hHeld => ?_)
            refine tkW 0 rfl hHeld ?_
            refine tkW 1 rfl hHeld ?_
            refine tkW 2 rfl hHeld ?_
            refine tkW 3 rfl hHeld ?_
            refine tkV 4 rfl (.string sx) (fun u hu => by have q := C0.out u hu; go_simp) hHeld ?_
            refine rdH 5 rfl (fun K hK => ?_)
            go_simp
            refine (DPA.out _ hHeld).mono ?_
            rintro e u1 ⟨rfl, hb⟩
            have hH := hHeld.trans (hb.mono hHeld.size)
            clear hHeld hb
            refine hK.out _ _ hH (fun hHeld => ?_)
            clear hK K
            try simp only [Act.put, List.setIfInBounds_toArray, List.set_cons_zero, List.set_cons_succ]
            refine tkW 6 rfl hHeld ?_
            refine tkW 7 rfl hHeld ?_
            refine tkW 8 rfl hHeld ?_
            refine tkW 9 rfl hHeld ?_
            refine tkW 10 rfl hHeld ?_
            refine tkW 11 rfl hHeld ?_
            refine tkV 12 rfl (.int .i64 mo) (fun u hu => by have q := C1.out u hu; go_simp) hHeld ?_
            refine tkW 13 rfl hHeld ?_
            refine tkW 14 rfl hHeld ?_
            refine tkW 15 rfl hHeld ?_
            refine tkW 16 rfl hHeld ?_
            refine tkW 17 rfl hHeld ?_
            refine tkW 18 rfl hHeld ?_
            refine tkW 19 rfl hHeld ?_
            refine tkV 20 rfl (.int .i64 mo) (fun u hu => by have q := C1.out u hu; go_simp) hHeld ?_
            refine tkW 21 rfl hHeld ?_
            refine tkW 22 rfl hHeld ?_
            refine tkW 23 rfl hHeld ?_
            refine tkW 24 rfl hHeld ?_
            refine tkW 25 rfl hHeld ?_
            refine tkW 26 rfl hHeld ?_
            refine tkW 27 rfl hHeld ?_
            refine tkH 28 rfl (yieldsIf_load_mid (by kernel_rfl) 26 (.tmp 38) (by kernel_rfl) b (o + i * 22 + 2) (by kernel_rfl) ci _ (fun u hu => R2.out u hu) Tryd.underlying26 rfl LI.out) hHeld ?_
            refine tkH 29 rfl (yields_build0 (by kernel_rfl) 26 (by kernel_rfl) zd hzdb) hHeld ?_
            refine tkH 30 rfl (yields_eql (by kernel_rfl) 26 26 (.tmp 39) (.tmp 40) (by kernel_rfl) ci.toArray zd (by kernel_rfl) (by kernel_rfl) (by kernel_rfl) false EQ.out) hHeld ?_
            refine tkW 31 rfl hHeld ?_
            refine tkW 32 rfl hHeld ?_
            refine tkW 33 rfl hHeld ?_
            refine tkW 34 rfl hHeld ?_
            refine tkW 35 rfl hHeld ?_
            refine tkW 36 rfl hHeld ?_
            refine tkW 37 rfl hHeld ?_
            refine tkW 38 rfl hHeld ?_
            refine tkW 39 rfl hHeld ?_
            refine tkV 40 rfl (.string sx) (fun u hu => by have q := C0.out u hu; go_simp) hHeld ?_
            refine tkW 41 rfl hHeld ?_
            refine tkW 42 rfl hHeld ?_
            refine tkW 43 rfl hHeld ?_
            refine tkW 44 rfl hHeld ?_
            refine tkW 45 rfl hHeld ?_
            refine tkV 46 rfl (.string sp) (fun u hu => by have q := CP.out u hu; go_simp) hHeld ?_
            refine tkV 47 rfl (.bool (!r)) (fun u hu => by have q := HLE.out; go_simp) hHeld ?_
            refine tkW 48 rfl hHeld ?_
            refine tkW 49 rfl hHeld ?_
            try simp only [Act.put, List.getElem_toArray, List.getElem_cons_succ, List.getElem_cons_zero, lsA, lsZ, lsS]
            refine wpAnyH_done (by kernel_rfl) ?_ _
            have HBU := Lib.hid (HBR.out.trans (hHeld.mono HBR.out.size))
            clear hHeld
            cases r
            case false =>
              have hR : false = R := (BAD.out i HIL.out (by rw [HSTR0.out]; rfl)).symm
              subst hR
              go_wp2
              go_ret
              exact ⟨rfl, HBU.out⟩
            have HSTR := Lib.hid (show stepF l i = clearF l i by rw [HSTR0.out]; rfl)
          all_goals
            go_wp2_with fail
            go_loopw [4] (fun v4 w3 => ∃ k : Nat, k ≤ i ∧ v4 = .int .i64 k ∧ (∀ j, j < k → underF (l.getD j noF).path (l.getD i noF).path = false) ∧ Below w.heap.size w w3) (fun v4 _ => i - (intOf v4).toNat)
            case atStart => exact ⟨0, Nat.zero_le _, rfl, fun j hj => absurd hj (Nat.not_lt_zero _), HBU.out⟩
            case round =>
              obtain ⟨k, hk, rfl, hcl, hb3⟩ := hrel
              have HCL := Lib.hid hcl; have HB3 := Lib.hid hb3
              clear hcl hb3
              by_cases hlk : k < i
              · have hkl : k < l.length := by have := HIL.out; omega
                have hkn : k < n := by omega
                obtain ⟨y2, hy2⟩ : ∃ y, l[k] = y := ⟨_, rfl⟩
                have hny := HNM.out y2 (by rw [← hy2]; exact List.getElem_mem _)
                have hyk : l.getD k noF = y2 := by rw [getD_fil l k hkl]; exact hy2
                have ad := fun w => add_lists (P := Tryd.prog) w y2.path [47] (by simp; omega)
                have CB := fun u => Begins_is x.path (y2.path ++ [47]) (by have := HNX.out; omega) (by simp; omega) u
                rw [prefix_take] at CB
                have HUN := Lib.hid (show underF (l.getD k noF).path (l.getD i noF).path = (y2.path ++ [47]).isPrefixOf x.path by rw [hyk, HX2.out]; rfl)
                obtain ⟨rb, hrb⟩ : ∃ rb, (y2.path ++ [47]).isPrefixOf x.path = rb := ⟨_, rfl⟩
                have hun := HUN.out
                rw [hrb] at CB hun
                clear HUN
                obtain ⟨sy, hsy⟩ : ∃ sy : ByteArray, ⟨y2.path.toArray⟩ = sy := ⟨_, rfl⟩
                obtain ⟨sz, hsz⟩ : ∃ sz : ByteArray, ⟨(y2.path ++ [47]).toArray⟩ = sz := ⟨_, rfl⟩
                have D0 := Lib.hid (show ∀ u, Below wr.heap.size wr u → u.cell? ⟨b, o + i * 22, none⟩ = some (.string sx) from fun u hu => by
                  have h1 := ((HB3.out.trans (hu.mono HB3.out.size)).cell (p := ⟨b, o + i * 22, none⟩) HBL.out).trans (HATI.out.elem i HIL.out 0 _ rfl)
                  rw [h1, ← HSX.out, ← HX2.out, getD_fil l i HIL.out])
                have D1 := Lib.hid (show ∀ u, Below wr.heap.size wr u → u.cell? ⟨b, o + k * 22, none⟩ = some (.string sy) from fun u hu => by
                  have h1 := ((HB3.out.trans (hu.mono HB3.out.size)).cell (p := ⟨b, o + k * 22, none⟩) HBL.out).trans (HATI.out.elem k hkl 0 _ rfl)
                  rw [h1, ← hsy, ← hy2])
                simp only [hsy, hsz] at ad
                rw [hsz, HSX.out] at CB
                have CB := Lib.hid CB; have HUN := Lib.hid hun; have HAD := Lib.hid ad; have HLK := Lib.hid hlk; have HKL := Lib.hid hkl
                clear hyk hny hy2 hsy hsz hun hrb ad hkl
                go_wp2_with fail
                refine wp_region_held_drew (S := fun u => Below wr.heap.size wr u) (by kernel_rfl) (Below.refl _ _).drew (fun hHeld => ?_)
                refine tkW 0 rfl hHeld ?_
                refine tkW 1 rfl hHeld ?_
                refine tkW 2 rfl hHeld ?_
                refine tkW 3 rfl hHeld ?_
                refine tkV 4 rfl (.string sx) (fun u hu => by have q := D0.out u hu; go_simp) hHeld ?_
                refine tkW 5 rfl hHeld ?_
                refine tkW 6 rfl hHeld ?_
                refine tkW 7 rfl hHeld ?_
                refine tkW 8 rfl hHeld ?_
                refine tkV 9 rfl (.string sy) (fun u hu => by have q := D1.out u hu; go_simp) hHeld ?_
                refine tkV 10 rfl (.string sz) (fun u hu => by have q := HAD.out u; go_simp) hHeld ?_
                refine rdH 11 rfl (fun K hK => ?_)
                go_simp
                refine (CB.out _).mono ?_
                rintro e u9 ⟨rfl, hb⟩
                have hH := hHeld
                rw [hb] at hH
                clear hHeld hb
                refine hK.out _ _ hH (fun hHeld => ?_)
                clear hK K
                try simp only [Act.put, List.setIfInBounds_toArray, List.set_cons_zero, List.set_cons_succ]
                try simp only [Act.put, List.getElem_toArray, List.getElem_cons_succ, List.getElem_cons_zero, lsA, lsZ, lsS]
                refine wpAnyH_done (by kernel_rfl) ?_ _
                have HB9 := Lib.hid (HB3.out.trans (hHeld.mono HB3.out.size))
                clear hHeld
                cases rb with
                | true =>
                  have hcf : clearF l i = false := by
                    cases hc : clearF l i with
                    | false => rfl
                    | true =>
                      have := (clearF_iff l i).1 hc k HLK.out
                      rw [HUN.out] at this
                      cases this
                  have hR : false = R := (BAD.out i HIL.out (by rw [HSTR.out, hcf])).symm
                  subst hR
                  clear hcf
                  go_wp2
                  go_ret
                  exact ⟨rfl, HB9.out⟩
                | false =>
                  go_wp2
                  go_roundw
                  case rel =>
                    have h1 := HLK.out
                    refine ⟨k + 1, by omega, by go_num, fun j hj => ?_, HB9.out⟩
                    by_cases h2 : j < k
                    · exact HCL.out j h2
                    · obtain rfl : j = k := by omega
                      exact HUN.out
                  case measure =>
                    have h1 := HLK.out
                    simp [intOf]
                    omega
              · obtain rfl : k = i := by omega
                have HCF := Lib.hid ((clearF_iff l k).2 HCL.out)
                go_wp2
                go_roundw
                case rel =>
                  refine ⟨k + 1, by omega, by go_num, fun j hj => ?_, HB3.out⟩
                  by_cases hji : j < k
                  · exact HST.out j hji
                  · obtain rfl : j = k := by omega
                    rw [HSTR.out]
                    exact HCF.out
                case measure => simp [intOf]; omega
    · obtain rfl : i = n := by omega
      by_cases h5 : i ≤ 500
      · have hR : true = R := (GOOD.out ⟨by rw [← HN.out]; exact h5, fun j hj => HST.out j (by rw [← HN.out] at hj; omega)⟩).symm
        subst hR
        have g5 : (i : Int) ≤ 500 := by omega
        go_wp2
        go_ret
        exact ⟨rfl, HBR.out⟩
      · have hR : false = R := (LONG.out (by rw [← HN.out]; omega)).symm
        subst hR
        have g5 : ¬ ((i : Int) ≤ 500) := by omega
        go_wp2
        go_ret
        exact ⟨rfl, HBR.out⟩
end Go.Proofs.YtdgcjjledbnofaaDoor

/-
  Cut of Drb: Right of the document, whatever the list.
-/
namespace Go.Proofs.YtdgcjjledbnofaaDoor
set_option maxRecDepth 20000
open Go.RowKit
set_option linter.unusedVariables false
set_option linter.unusedSimpArgs false

set_option maxHeartbeats 2000000 in
theorem rfRight_is (a : Option Addr) (n c : Nat) (l : List Fil) (w : World) (hn : n = l.length) (hm : n ≤ 1000000) (hat : FilesAt w a l) (hid : ∀ i ∈ l, i.id.length = 20) (hnm : ∀ i ∈ l, i.path.length ≤ 100000) (tab : QTab w) :
    Calls Tryd.prog 21 #[.slice a n c] w fun e w' => e = .returned (.bool (rightF l)) ∧ Below w.heap.size w w' := by
  by_cases h1 : n = 0
  · have hR : rightF l = true := by
      have : l = [] := List.eq_nil_of_length_eq_zero (by omega)
      subst this
      rfl
    rw [hR]
    subst h1
    clear hn hm hat hid hnm tab hR
    go_enter Tryd.func21, Tryd.ntmps21
    go_wp2_with fail
    refine wp_loop_rounds 1 ?_
    rw [rounds_succ]
    go_wp2
    go_ret
    exact ⟨rfl, Below.refl _ _⟩
  · obtain ⟨b, o, rfl, -⟩ := hat.some (by omega)
    exact rfRight_some b o n c l w hn hm (fun _ => hat) hid hnm tab
end Go.Proofs.YtdgcjjledbnofaaDoor

/-
  Layer 1: Hex of the reference.
-/
namespace Go.Proofs.YtdgcjjledbnofaaDoor
open Go.RowKit
set_option linter.unusedVariables false

theorem ext_dig16 : ∀ n : Fin 16, (⟨#[48, 49, 50, 51, 52, 53, 54, 55, 56, 57, 97, 98, 99, 100, 101, 102]⟩ : ByteArray).extract n.1 (n.1 + 1) = ⟨[hexDig n.1].toArray⟩ := by decide
theorem ext_dig (n : Nat) (h : n < 16) : (⟨#[48, 49, 50, 51, 52, 53, 54, 55, 56, 57, 97, 98, 99, 100, 101, 102]⟩ : ByteArray).extract n (n + 1) = ⟨[hexDig n].toArray⟩ := ext_dig16 ⟨n, h⟩

set_option maxHeartbeats 400000 in
theorem rHex_some (b o c : Nat) (l : List UInt8) (w : World) (hb : b < w.heap.size) (hc : ∀ i (h : i < l.length), w.cell? ⟨b, o + i, none⟩ = some (.int .u8 (l[i]).toNat)) (hn : l.length ≤ 1099511627776) :
    Calls Tryd.prog 17 #[.slice (some ⟨b, o, none⟩) l.length c] w fun e w' => e = .returned (.string ⟨(hexL l).toArray⟩) ∧ Below w.heap.size w w' := by
  have HC := Lib.hid hc; clear hc
  go_enter Tryd.func17, Tryd.ntmps17
  go_wp2_with fail
  go_loopw [3, 4] (fun s i wr => ∃ k : Nat, k ≤ l.length ∧ i = .int .i64 k ∧ s = .string ⟨(hexL (l.take k)).toArray⟩ ∧ Below w.heap.size w wr) (fun _ i _ => l.length - (intOf i).toNat)
  case atStart => exact ⟨0, Nat.zero_le _, rfl, rfl, Below.refl _ _⟩
  case round =>
    obtain ⟨k, hk, rfl, rfl, hbr⟩ := hrel
    by_cases hlt : k < l.length
    · have hcell : wr.cell? ⟨b, o + k, none⟩ = some (.int .u8 (l[k]).toNat) := (hbr.cell (p := ⟨b, o + k, none⟩) hb).trans (HC.out k hlt)
      have hx : (l[k]).toNat < 256 := (l[k]).toNat_lt
      obtain ⟨x, hxe⟩ : ∃ x : Nat, x = (l[k]).toNat := ⟨_, rfl⟩
      rw [← hxe] at hcell hx
      obtain ⟨acc, hacc⟩ : ∃ acc : List UInt8, acc = hexL (l.take k) := ⟨_, rfl⟩
      have hal : acc.length = 2 * k := by rw [hacc, hexL_length, List.length_take]; omega
      rw [← hacc]
      obtain ⟨s1, hs1⟩ : ∃ s : List UInt8, s = [hexDig (x / 16)] := ⟨_, rfl⟩
      obtain ⟨s2, hs2⟩ : ∃ s : List UInt8, s = [hexDig (x % 16)] := ⟨_, rfl⟩
      obtain ⟨acc1, ha1⟩ : ∃ a : List UInt8, a = acc ++ s1 := ⟨_, rfl⟩
      obtain ⟨acc2, ha2⟩ : ∃ a : List UInt8, a = acc1 ++ s2 := ⟨_, rfl⟩
      have g1 := ext_dig (x / 16) (by omega)
      have g2 := ext_dig (x % 16) (by omega)
      rw [← hs1] at g1
      rw [← hs2] at g2
      have b1 : (0 : Int) ≤ (x : Int) / 16 + 1 := by omega
      have b2 : (x : Int) / 16 + 1 ≤ 16 := by omega
      have b3 : (0 : Int) ≤ (x : Int) % 16 + 1 := by omega
      have b4 : (x : Int) % 16 + 1 ≤ 16 := by omega
      have t1 : ((x : Int) / 16 + 1).toNat = x / 16 + 1 := by omega
      have t2 : ((x : Int) / 16).toNat = x / 16 := by omega
      have t3 : ((x : Int) % 16 + 1).toNat = x % 16 + 1 := by omega
      have t4 : ((x : Int) % 16).toNat = x % 16 := by omega
      have d1 := fun w => add_lists (P := Tryd.prog) w acc s1 (by rw [hs1, hal]; simp; omega)
      rw [← ha1] at d1
      have d2 := fun w => add_lists (P := Tryd.prog) w acc1 s2 (by rw [hs2, ha1, hs1, List.length_append, hal]; simp; omega)
      rw [← ha2] at d2
      have q1 := IntWalk.i64_in ((x : Int) / 16 + 1) (by omega)
      have q2 := IntWalk.i64_in ((x : Int) % 16 + 1) (by omega)
      have fin : acc2 = hexL (l.take (k + 1)) := by
        rw [hexL_snoc l k hlt, ← hxe, ha2, ha1, hs1, hs2, hacc, List.append_assoc]; rfl
      have FIN := Lib.hid fin
      clear hs1 hs2 ha1 ha2 hal hacc fin hxe
      go_wp2_with fail
      go_quiet (fail)
      go_wp2_with fail
      go_quiet (fail)
      go_wp2
      go_roundw
      case rel => exact ⟨k + 1, by omega, by go_num, by rw [FIN.out], _root_.Go.below_drewN hbr _⟩
      case measure => simp [intOf]; omega
    · obtain rfl : k = l.length := by omega
      rw [List.take_length]
      go_wp2
      go_ret
      exact ⟨rfl, hbr⟩
set_option maxHeartbeats 400000 in
theorem rHex_none (a : Option Addr) (c : Nat) (w : World) :
    Calls Tryd.prog 17 #[.slice a 0 c] w fun e w' => e = .returned (.string ⟨(hexL []).toArray⟩) ∧ Below w.heap.size w w' := by
  go_enter Tryd.func17, Tryd.ntmps17
  go_wp2_with fail
  refine wp_loop_rounds 1 ?_
  rw [rounds_succ]
  go_wp2
  go_ret
  exact ⟨rfl, Below.refl _ _⟩
theorem rHex_any (a : Option Addr) (n c : Nat) (l : List UInt8) (w : World) (h : BAt w a l) (hl : n = l.length) (hn : l.length ≤ 1099511627776) :
    Calls Tryd.prog 17 #[.slice a n c] w fun e w' => e = .returned (.string ⟨(hexL l).toArray⟩) ∧ Below w.heap.size w w' := by
  subst hl
  by_cases hp : 0 < l.length
  · obtain ⟨b, o, rfl, hb, hc⟩ := h hp
    exact rHex_some b o c l w hb hc hn
  · obtain rfl : l = [] := List.eq_nil_of_length_eq_zero (by omega)
    exact rHex_none a c w
end Go.Proofs.YtdgcjjledbnofaaDoor
