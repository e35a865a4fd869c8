/-
  Texts that belong together, one behind the other.
-/
import Derived.Test.YtpelehhmdcjikaaGreatDoorFu09
import Derived.Test.YtpelehhmdcjikaaGreatDoorFu20
import Derived.Test.YtpelehhmdcjikaaGreatDoorFu16
import Derived.Test.YtpelehhmdcjikaaGreatDoorFu02
import Derived.Test.YtpelehhmdcjikaaGreatDoorFu07
import Derived.OwnWalk
import Derived.WalkSmall
import Derived.IntWalk
import Derived.Lib.Hide
import Derived.Deep.RegionHeld3
import Derived.Test.YtpelehhmdcjikaaGreatDoorFu06
import Derived.Test.YtpelehhmdcjikaaGreatDoorFu14
import Derived.Test.YtpelehhmdcjikaaGreatDoorFu15
import Derived.Test.YtpelehhmdcjikaaGreatDoorFu18
import Derived.Test.YtpelehhmdcjikaaGreatDoorFu08
import Derived.Test.YtpelehhmdcjikaaGreatDoorFu13
import Derived.Test.YtpelehhmdcjikaaGreatDoorFu05
import Derived.Shelf.SlMaps.Clone
/-
  Layer 10, the document's answers: the record of a commit.
-/
namespace Go.Proofs.YtpelehhmdcjikaaGreatDoor
set_option maxRecDepth 20000
open Go.RowKit
set_option linter.unusedVariables false
set_option linter.unusedSimpArgs false
/-- A commit's record, and what is answered. -/
def comS (o : Option Cel) : Rcd × Int := if (ofS o 3).2 = 0 then parsedR (ofS o 3).1 else (rcdZ, (ofS o 3).2)
theorem ofS_len {o : Option Cel} {k : Int} (h : ∀ c, o = some c → c.body.length ≤ 65536) : (ofS o k).1.length ≤ 65536 := by
  unfold ofS
  cases o with
  | none => exact Nat.zero_le _
  | some c =>
    by_cases hk : c.kind = k
    · simp only [if_pos hk]; exact h c rfl
    · simp only [if_neg hk]; exact Nat.zero_le _
end Go.Proofs.YtpelehhmdcjikaaGreatDoor

/-
  Layer 10, the program: a nil store.
-/
namespace Go.Proofs.YtpelehhmdcjikaaGreatDoor
set_option maxRecDepth 20000
open Go.RowKit
set_option linter.unusedVariables false
set_option linter.unusedSimpArgs false
set_option maxHeartbeats 16000000 in
theorem GetP_nil (i : List UInt8) (hi : i.length = 20) (w : World) :
    Calls Tryz.prog 18 #[.pointer none, .agg (arrD i)] w fun e w' => e = .returned (.tuple #[.agg #[.int .i64 0, .slice none 0 0], .bool false]) ∧ Below w.heap.size w w' := by
  obtain ⟨A1, hA1⟩ : ∃ A, arrD i = A := ⟨_, rfl⟩
  have sA : A1.size = 20 := by rw [← hA1]; exact arrD_size i hi
  have b1 : Below w.heap.size w (w.alloc (.cells A1 24)) := (Below.refl w.heap.size w).alloc (Nat.le_refl _) (.cells A1 24)
  have b2 := b1.alloc b1.size (.cells #[.int .i64 0, .slice none 0 0] 34)
  have hs1 : (w.alloc (.cells A1 24)).heap.size = w.heap.size + 1 := by simp
  have h02 := heap_alloc_new (w.alloc (.cells A1 24)) (.cells #[.int .i64 0, .slice none 0 0] 34)
  have h01 := (((Below.refl (w.alloc (.cells A1 24)).heap.size (w.alloc (.cells A1 24))).alloc (Nat.le_refl _) (.cells #[.int .i64 0, .slice none 0 0] 34)).block w.heap.size (by simp)).trans (heap_alloc_new w (.cells A1 24))
  rw [hs1] at h02
  have H1 := Lib.hid h01; have H2 := Lib.hid h02; have B2 := Lib.hid b2
  have IA := Lib.hid (show (Tryz.prog.info? 24).map (·.size) = some A1.size from by rw [sA]; exact infoD_n)
  have CF := Lib.hid (fun u => findP_nil i u)
  rw [hA1] at CF ⊢
  clear sA b1 b2 h01 h02 hs1
  go_enter Tryz.func18, Tryz.ntmps18
  go_wp2_with (first
    | (with_reducible refine wpList_load_all 24 (.tmp 3) rfl (by kernel_rfl) w.heap.size A1 24 (0, 0) rfl H1.out _ Tryz.underlying24 rfl IA.out ?_)
    | fail)
  refine (CF.out _).mono ?_
  rintro e w3 ⟨rfl, hb3⟩
  have H3 := Lib.hid ((hb3.block (w.heap.size + 1) (lt_of_heap H2.out)).trans H2.out)
  have HB3 := Lib.hid (B2.out.trans (hb3.mono B2.out.size))
  clear hb3
  go_wp2_with (first
    | (refine wpList_build_none rfl 34 rfl _ built_ob0 ?_)
    | (with_reducible refine wpList_store_obj rfl (.tmp 4) (.tmp 16) rfl (w.heap.size + 1) (.int .i64 0) (.slice none 0 0) (.int .i64 0) (.slice none 0 0) rfl rfl H3.out (one_obj 0 none 0 0) ?_)
    | fail)
  intro w4 r4 bl4 off4 sz4
  have HB4 := Lib.hid (bl4 _ _ (Nat.le_succ _) HB3.out)
  go_wp2
  exact bodyPost_ret (results_ob10 Tryz.results18 _ _ (w.heap.size + 1) _ (0, 0) _ rfl rfl r4 rfl) rfl ⟨rfl, HB4.out⟩
set_option maxHeartbeats 16000000 in
theorem TreeP_nil (i : List UInt8) (hi : i.length = 20) (w : World) :
    Calls Tryz.prog 19 #[.pointer none, .agg (arrD i)] w fun e w' => e = .returned (.tuple #[.slice none 0 0, .int .i64 2]) ∧ Below w.heap.size w w' := by
  obtain ⟨A1, hA1⟩ : ∃ A, arrD i = A := ⟨_, rfl⟩
  have sA : A1.size = 20 := by rw [← hA1]; exact arrD_size i hi
  have H1 := Lib.hid (heap_alloc_new w (.cells A1 24)); have B1 := Lib.hid ((Below.refl w.heap.size w).alloc (Nat.le_refl _) (.cells A1 24))
  have IA := Lib.hid (show (Tryz.prog.info? 24).map (·.size) = some A1.size from by rw [sA]; exact infoD_n)
  have CO := Lib.hid (fun u => bodyP_nil i hi 2 u)
  rw [hA1] at CO ⊢
  clear sA
  go_enter Tryz.func19, Tryz.ntmps19
  go_wp2_with (first
    | (with_reducible refine wpList_load_all 24 (.tmp 3) rfl (by kernel_rfl) w.heap.size A1 24 (0, 0) rfl H1.out _ Tryz.underlying24 rfl IA.out ?_)
    | fail)
  refine (CO.out _).mono ?_
  rintro e w3 ⟨rfl, hb3⟩
  have HB3 := Lib.hid (B1.out.trans (hb3.mono B1.out.size))
  clear hb3
  go_wp2
  go_ret2
  exact ⟨rfl, HB3.out⟩
set_option maxHeartbeats 16000000 in
theorem BlobP_nil (i : List UInt8) (hi : i.length = 20) (w : World) :
    Calls Tryz.prog 21 #[.pointer none, .agg (arrD i)] w fun e w' => (∃ a c, e = .returned (.tuple #[.slice a 0 c, .int .i64 2])) ∧ Below w.heap.size w w' := by
  obtain ⟨A1, hA1⟩ : ∃ A, arrD i = A := ⟨_, rfl⟩
  have sA : A1.size = 20 := by rw [← hA1]; exact arrD_size i hi
  have H1 := Lib.hid (heap_alloc_new w (.cells A1 24)); have B1 := Lib.hid ((Below.refl w.heap.size w).alloc (Nat.le_refl _) (.cells A1 24))
  have IA := Lib.hid (show (Tryz.prog.info? 24).map (·.size) = some A1.size from by rw [sA]; exact infoD_n)
  have CO := Lib.hid (fun u => bodyP_nil i hi 1 u)
  have CC := Lib.hid (fun u => bClone_any [] u none 0 0 (BAt.nil u none) rfl (fun _ => ⟨rfl, rfl⟩) (by simp))
  rw [hA1] at CO ⊢
  clear sA
  go_enter Tryz.func21, Tryz.ntmps21
  go_wp2_with (first
    | (with_reducible refine wpList_load_all 24 (.tmp 3) rfl (by kernel_rfl) w.heap.size A1 24 (0, 0) rfl H1.out _ Tryz.underlying24 rfl IA.out ?_)
    | fail)
  refine (CO.out _).mono ?_
  rintro e w3 ⟨rfl, hb3⟩
  have HB3 := Lib.hid (B1.out.trans (hb3.mono B1.out.size))
  clear hb3
  go_wp2_with fail
  refine (CC.out _).mono ?_
  rintro e w4 ⟨v', rfl, hr4, hf4, hb4⟩
  have HB4 := Lib.hid (HB3.out.trans (hb4.mono HB3.out.size))
  obtain ⟨a', c', e', -⟩ := hr4.shape
  rw [List.length_nil] at e'
  subst e'
  clear hr4 hf4 hb4
  go_wp2
  go_ret2
  exact ⟨⟨_, _, rfl⟩, HB4.out⟩
set_option maxHeartbeats 16000000 in
theorem CommitP_nil (i : List UInt8) (hi : i.length = 20) (w : World) :
    Calls Tryz.prog 20 #[.pointer none, .agg (arrD i)] w fun e w' => e = .returned (.tuple #[.agg recZ, .int .i64 2]) ∧ Below w.heap.size w w' := by
  obtain ⟨A1, hA1⟩ : ∃ A, arrD i = A := ⟨_, rfl⟩
  have sA : A1.size = 20 := by rw [← hA1]; exact arrD_size i hi
  have b1 : Below w.heap.size w (w.alloc (.cells A1 24)) := (Below.refl w.heap.size w).alloc (Nat.le_refl _) (.cells A1 24)
  obtain ⟨z, hz0, hzs, hzv, hzb, hz1⟩ := zRec_any
  have b2 := b1.alloc b1.size (.cells z 54)
  have hs1 : (w.alloc (.cells A1 24)).heap.size = w.heap.size + 1 := by simp
  have h02 := heap_alloc_new (w.alloc (.cells A1 24)) (.cells z 54)
  have h01 := (((Below.refl (w.alloc (.cells A1 24)).heap.size (w.alloc (.cells A1 24))).alloc (Nat.le_refl _) (.cells z 54)).block w.heap.size (by simp)).trans (heap_alloc_new w (.cells A1 24))
  rw [hs1] at h02
  have H1 := Lib.hid h01; have H2 := Lib.hid h02; have B2 := Lib.hid b2
  have IA := Lib.hid (show (Tryz.prog.info? 24).map (·.size) = some A1.size from by rw [sA]; exact infoD_n)
  have IZ := Lib.hid (show (Tryz.prog.info? 54).map (·.size) = some z.size from by rw [hzs]; exact infoC)
  have ZB := Lib.hid hzb; have Z1 := Lib.hid hz1; have ZS := Lib.hid hzs
  have CO := Lib.hid (fun u => bodyP_nil i hi 3 u)
  rw [hA1] at CO ⊢
  rw [← hz0]
  clear sA b1 b2 h01 h02 hs1 hz0 hzs hzb hz1
  go_enter Tryz.func20, Tryz.ntmps20
  go_wp2_with (first
    | (with_reducible refine wpList_load_all 24 (.tmp 3) rfl (by kernel_rfl) w.heap.size A1 24 (0, 0) rfl H1.out _ Tryz.underlying24 rfl IA.out ?_)
    | fail)
  refine (CO.out _).mono ?_
  rintro e w3 ⟨rfl, hb3⟩
  have H3 := Lib.hid ((hb3.block (w.heap.size + 1) (lt_of_heap H2.out)).trans H2.out)
  have HB3 := Lib.hid (B2.out.trans (hb3.mono B2.out.size))
  clear hb3
  go_wp2_with (first
    | (refine wpList_build_none rfl 54 rfl z ZB.out ?_)
    | (with_reducible refine wpList_store_all rfl 54 (.tmp 4) (.tmp 16) rfl (w.heap.size + 1) z rfl rfl 54 z H3.out IZ.out rfl Z1.out ?_)
    | fail)
  intro w5 r5 off5 sz5
  have HB5 := Lib.hid (HB3.out.trans (off5.below (Nat.le_succ _) HB3.out.size))
  go_wp2
  exact bodyPost_ret (results_rec Tryz.results20 _ _ (w.heap.size + 1) z (0, 0) _ rfl rfl r5 ZS.out) rfl ⟨rfl, HB5.out⟩
set_option maxHeartbeats 4000000 in
theorem IdsP_nil (w : World) : Calls Tryz.prog 16 #[.pointer none] w fun e w' => e = .returned (.slice none 0 0) ∧ w' = w := by
  go_enter Tryz.func16, Tryz.ntmps16
  go_wp2
  go_ret
  exact ⟨rfl, rfl⟩
set_option maxHeartbeats 4000000 in
theorem ForkP_nil (w : World) : Calls Tryz.prog 13 #[.pointer none] w fun e w' => e = .returned (.pointer none) ∧ w' = w := by
  go_enter Tryz.func13, Tryz.ntmps13
  go_wp2
  go_ret
  exact ⟨rfl, rfl⟩
end Go.Proofs.YtpelehhmdcjikaaGreatDoor

/-
  Layer 10, the program: whether a thing is an object (same).
-/
namespace Go.Proofs.YtpelehhmdcjikaaGreatDoor
set_option maxRecDepth 100000
open Go.RowKit
set_option linter.unusedVariables false
set_option linter.unusedSimpArgs false
set_option maxHeartbeats 16000000 in
theorem sameP_is (k1 k2 : Int) (hk : kindO k1) (v1 v2 : Value) (l1 l2 : List UInt8) (w : World) (h1 : Red w v1 l1) (h2 : Red w v2 l2) :
    Calls Tryz.prog 55 #[thingP k1 v1, .agg #[.int .i64 k2, v2]] w fun e w' => e = .returned (.bool (k1 == k2 && l1 == l2)) ∧ Below w.heap.size w w' := by
  obtain ⟨a1, c1, rfl, hb1, hn1, hc1, hm1⟩ := h1
  obtain ⟨a2, c2, rfl, hb2, hn2, hc2, hm2⟩ := h2
  obtain ⟨T, hT, hth⟩ := kind_ty hk
  have CK := Lib.hid (fun u => hth (.slice a1 l1.length c1) ▸ kind_is k1 hk a1 l1.length c1 u)
  have m := m_bytes T hT (.slice a1 l1.length c1)
  have CB := Lib.hid (fun u => obytes_is a1 l1.length c1 u)
  have b1 := (Below.refl w.heap.size w).alloc (Nat.le_refl _) (.cells #[.int .i64 k2, .slice a2 l2.length c2] 34)
  have h0 := heap_alloc_new w (.cells #[.int .i64 k2, .slice a2 l2.length c2] 34)
  have CE := Lib.hid (fun u (hu : Below w.heap.size w u) => bEqual_any a1 a2 _ _ c1 c2 l1 l2 u (hb1.keep hu) (hb2.keep hu) rfl rfl)
  have B1 := Lib.hid b1
  rw [hth]
  obtain ⟨n1, e1⟩ : ∃ n, l1.length = n := ⟨_, rfl⟩
  obtain ⟨n2, e2⟩ : ∃ n, l2.length = n := ⟨_, rfl⟩
  rw [e1] at CK CB m CE
  rw [e2] at h0 CE B1
  rw [e1, e2]
  clear b1 hb1 hb2 hn1 hn2 hc1 hc2 hm1 hm2 e1 e2 hk hT hth
  obtain ⟨w1, hw1⟩ : ∃ w1, w.alloc (.cells #[.int .i64 k2, .slice a2 n2 c2] 34) = w1 := ⟨_, rfl⟩
  rw [hw1] at B1 h0
  have P0 := Lib.hid (fun u (hu : Below w1.heap.size w1 u) => (by
    rw [Lib.cell_of_heap ((hu.block w.heap.size (lt_of_heap h0)).trans h0)]
    rfl : u.cell? ⟨w.heap.size, 0, none⟩ = some (.int .i64 k2)))
  have P1 := Lib.hid (fun u (hu : Below w1.heap.size w1 u) => (by
    rw [Lib.cell_of_heap ((hu.block w.heap.size (lt_of_heap h0)).trans h0)]
    rfl : u.cell? ⟨w.heap.size, 1, none⟩ = some (.slice a2 n2 c2)))
  clear h0
  by_cases hkk : k1 = k2
  · subst hkk
    have hr : (k1 == k1 && l1 == l2) = (l1 == l2) := by simp
    rw [hr]
    obtain ⟨r, hr2⟩ : ∃ r, (l1 == l2) = r := ⟨_, rfl⟩
    rw [hr2] at CE ⊢
    clear hr hr2
    go_enter Tryz.func55, Tryz.ntmps55
    go_wp2_with fail
    refine wp_region_held_drew (S := fun u => Below w1.heap.size w1 u) (by kernel_rfl) (Below.refl _ _).drew (fun hHeld => ?_)
    refine wpAnyH_take (i := 0) (v := ?pv0) rfl (by kernel_rfl) (by kernel_rfl) (by kernel_rfl) (fun _ _ _ h => h) (Or.inl ⟨by kernel_rfl, ?py0⟩) hHeld ?_
    case py0 => intro u hu; go_simp; try with_reducible rfl
    try simp only [Act.put, List.setIfInBounds_toArray, List.set_cons_zero, List.set_cons_succ]
    refine wpAnyH_take (i := 2) (v := ?pv2) rfl (by kernel_rfl) (by kernel_rfl) (by kernel_rfl) (fun _ _ _ h => h) (Or.inl ⟨by kernel_rfl, ?py2⟩) hHeld ?_
    case py2 => intro u hu; go_simp; try with_reducible rfl
    try simp only [Act.put, List.setIfInBounds_toArray, List.set_cons_zero, List.set_cons_succ]
    refine wpAnyH_take (i := 3) (v := .int .i64 k1) rfl (by kernel_rfl) (by kernel_rfl) (by kernel_rfl) (fun _ _ _ h => h) (Or.inl ⟨by kernel_rfl, ?py3x⟩) hHeld ?_
    case py3x => intro u hu; have q := P0.out u hu; go_simp
    try simp only [Act.put, List.setIfInBounds_toArray, List.set_cons_zero, List.set_cons_succ]
    refine wpAnyH_ready (rs := [1]) (by kernel_rfl) (by simp) ?_
    refine AllReadyH.cons rfl (fun K hK => ?_) AllReadyH.nil
    go_simp
    refine (CK.out _).mono ?_
    rintro e u1 ⟨rfl, hI⟩
    have hH := hHeld.trans (hI.mono hHeld.size)
    clear hHeld hI
    refine hK.out _ _ hH (fun hHeld => ?_)
    clear hK K
    try simp only [Act.put, List.setIfInBounds_toArray, List.set_cons_zero, List.set_cons_succ]
    refine wpAnyH_take (i := 4) (v := ?pv4) rfl (by kernel_rfl) (by kernel_rfl) (by kernel_rfl) (fun _ _ _ h => h) (Or.inl ⟨by kernel_rfl, ?py4⟩) hHeld ?_
    case py4 => intro u hu; go_simp; try with_reducible rfl
    try simp only [Act.put, List.setIfInBounds_toArray, List.set_cons_zero, List.set_cons_succ]
    refine wpAnyH_take (i := 5) (v := ?pv5) rfl (by kernel_rfl) (by kernel_rfl) (by kernel_rfl) (fun _ _ _ h => h) (Or.inl ⟨by kernel_rfl, ?py5⟩) hHeld ?_
    case py5 => intro u hu; go_simp; try with_reducible rfl
    try simp only [Act.put, List.setIfInBounds_toArray, List.set_cons_zero, List.set_cons_succ]
    refine wpAnyH_take (i := 6) (v := ?pv6) rfl (by kernel_rfl) (by kernel_rfl) (by kernel_rfl) (fun _ _ _ h => h) (Or.inl ⟨by kernel_rfl, ?py6⟩) hHeld ?_
    case py6 => intro u hu; go_simp; try with_reducible rfl
    try simp only [Act.put, List.setIfInBounds_toArray, List.set_cons_zero, List.set_cons_succ]
    refine wpAnyH_take (i := 8) (v := ?pv8) rfl (by kernel_rfl) (by kernel_rfl) (by kernel_rfl) (fun _ _ _ h => h) (Or.inl ⟨by kernel_rfl, ?py8⟩) hHeld ?_
    case py8 => intro u hu; go_simp; try with_reducible rfl
    try simp only [Act.put, List.setIfInBounds_toArray, List.set_cons_zero, List.set_cons_succ]
    refine wpAnyH_take (i := 9) (v := .slice a2 n2 c2) rfl (by kernel_rfl) (by kernel_rfl) (by kernel_rfl) (fun _ _ _ h => h) (Or.inl ⟨by kernel_rfl, ?py9x⟩) hHeld ?_
    case py9x => intro u hu; have q := P1.out u hu; go_simp
    try simp only [Act.put, List.setIfInBounds_toArray, List.set_cons_zero, List.set_cons_succ]
    refine wpAnyH_ready (rs := [7]) (by kernel_rfl) (by simp) ?_
    refine AllReadyH.cons rfl (fun K hK => ?_) AllReadyH.nil
    go_simp
    refine (CB.out _).mono ?_
    rintro e u1 ⟨rfl, rfl⟩
    have hH := hHeld
    clear hHeld
    refine hK.out _ _ hH (fun hHeld => ?_)
    clear hK K
    try simp only [Act.put, List.setIfInBounds_toArray, List.set_cons_zero, List.set_cons_succ]
    refine wpAnyH_ready (rs := [10]) (by kernel_rfl) (by simp) ?_
    refine AllReadyH.cons rfl (fun K hK => ?_) AllReadyH.nil
    go_simp
    refine (CE.out _ (B1.out.trans (hHeld.mono B1.out.size))).mono ?_
    rintro e u1 ⟨rfl, rfl⟩
    have hH := hHeld
    clear hHeld
    refine hK.out _ _ hH (fun hHeld => ?_)
    clear hK K
    try simp only [Act.put, List.setIfInBounds_toArray, List.set_cons_zero, List.set_cons_succ]
    refine wpAnyH_take (i := 11) (v := ?pv11) rfl (by kernel_rfl) (by kernel_rfl) (by kernel_rfl) (fun _ _ _ h => h) (Or.inl ⟨by kernel_rfl, ?py11⟩) hHeld ?_
    case py11 => intro u hu; go_simp; try with_reducible rfl
    try simp only [Act.put, List.setIfInBounds_toArray, List.set_cons_zero, List.set_cons_succ]
    refine wpAnyH_take (i := 12) (v := ?pv12) rfl (by kernel_rfl) (by kernel_rfl) (by kernel_rfl) (fun _ _ _ h => h) (Or.inl ⟨by kernel_rfl, ?py12⟩) hHeld ?_
    case py12 => intro u hu; go_simp; try with_reducible rfl
    try simp only [Act.put, List.getElem_toArray, List.getElem_cons_succ, List.getElem_cons_zero, List.setIfInBounds_toArray, List.set_cons_zero, List.set_cons_succ]
    refine wpAnyH_done (by kernel_rfl) ?_ _
    have HB := Lib.hid (B1.out.trans (hHeld.mono B1.out.size))
    clear hHeld
    go_wp2
    go_ret
    exact ⟨rfl, HB.out⟩
  · have hr : (k1 == k2 && l1 == l2) = false := by simp [hkk]
    have hf : (k1 == k2) = false := beq_false_of_ne hkk
    rw [hr]
    clear hr hkk CE CB m
    go_enter Tryz.func55, Tryz.ntmps55
    go_wp2_with fail
    refine wp_region_held_drew (S := fun u => Below w1.heap.size w1 u) (by kernel_rfl) (Below.refl _ _).drew (fun hHeld => ?_)
    refine wpAnyH_take (i := 0) (v := ?fv0) rfl (by kernel_rfl) (by kernel_rfl) (by kernel_rfl) (fun _ _ _ h => h) (Or.inl ⟨by kernel_rfl, ?fy0⟩) hHeld ?_
    case fy0 => intro u hu; go_simp; try with_reducible rfl
    try simp only [Act.put, List.setIfInBounds_toArray, List.set_cons_zero, List.set_cons_succ]
    refine wpAnyH_take (i := 2) (v := ?fv2) rfl (by kernel_rfl) (by kernel_rfl) (by kernel_rfl) (fun _ _ _ h => h) (Or.inl ⟨by kernel_rfl, ?fy2⟩) hHeld ?_
    case fy2 => intro u hu; go_simp; try with_reducible rfl
    try simp only [Act.put, List.setIfInBounds_toArray, List.set_cons_zero, List.set_cons_succ]
    refine wpAnyH_take (i := 3) (v := .int .i64 k2) rfl (by kernel_rfl) (by kernel_rfl) (by kernel_rfl) (fun _ _ _ h => h) (Or.inl ⟨by kernel_rfl, ?fy3x⟩) hHeld ?_
    case fy3x => intro u hu; have q := P0.out u hu; go_simp
    try simp only [Act.put, List.setIfInBounds_toArray, List.set_cons_zero, List.set_cons_succ]
    refine wpAnyH_ready (rs := [1]) (by kernel_rfl) (by simp) ?_
    refine AllReadyH.cons rfl (fun K hK => ?_) AllReadyH.nil
    go_simp
    refine (CK.out _).mono ?_
    rintro e u1 ⟨rfl, hI⟩
    have hH := hHeld.trans (hI.mono hHeld.size)
    clear hHeld hI
    refine hK.out _ _ hH (fun hHeld => ?_)
    clear hK K
    try simp only [Act.put, List.setIfInBounds_toArray, List.set_cons_zero, List.set_cons_succ]
    refine wpAnyH_take (i := 4) (v := ?fv4) rfl (by kernel_rfl) (by kernel_rfl) (by kernel_rfl) (fun _ _ _ h => h) (Or.inl ⟨by kernel_rfl, ?fy4⟩) hHeld ?_
    case fy4 => intro u hu; go_simp; try with_reducible rfl
    try simp only [Act.put, List.setIfInBounds_toArray, List.set_cons_zero, List.set_cons_succ]
    refine wpAnyH_take (i := 5) (v := ?fv5) rfl (by kernel_rfl) (by kernel_rfl) (by kernel_rfl) (fun _ _ _ h => h) (Or.inl ⟨by kernel_rfl, ?fy5⟩) hHeld ?_
    case fy5 => intro u hu; go_simp; try with_reducible rfl
    try simp only [Act.put, List.setIfInBounds_toArray, List.set_cons_zero, List.set_cons_succ]
    refine wpAnyH_take (i := 6) (v := undef) rfl (by kernel_rfl) (by kernel_rfl) (by kernel_rfl) (fun _ _ _ h => h) (Or.inr ⟨by kernel_rfl, rfl⟩) hHeld ?_
    try simp only [Act.put, List.setIfInBounds_toArray, List.set_cons_zero, List.set_cons_succ]
    refine wpAnyH_take (i := 7) (v := undef) rfl (by kernel_rfl) (by kernel_rfl) (by kernel_rfl) (fun _ _ _ h => h) (Or.inr ⟨by kernel_rfl, rfl⟩) hHeld ?_
    try simp only [Act.put, List.setIfInBounds_toArray, List.set_cons_zero, List.set_cons_succ]
    refine wpAnyH_take (i := 8) (v := undef) rfl (by kernel_rfl) (by kernel_rfl) (by kernel_rfl) (fun _ _ _ h => h) (Or.inr ⟨by kernel_rfl, rfl⟩) hHeld ?_
    try simp only [Act.put, List.setIfInBounds_toArray, List.set_cons_zero, List.set_cons_succ]
    refine wpAnyH_take (i := 9) (v := undef) rfl (by kernel_rfl) (by kernel_rfl) (by kernel_rfl) (fun _ _ _ h => h) (Or.inr ⟨by kernel_rfl, rfl⟩) hHeld ?_
    try simp only [Act.put, List.setIfInBounds_toArray, List.set_cons_zero, List.set_cons_succ]
    refine wpAnyH_take (i := 10) (v := undef) rfl (by kernel_rfl) (by kernel_rfl) (by kernel_rfl) (fun _ _ _ h => h) (Or.inr ⟨by kernel_rfl, rfl⟩) hHeld ?_
    try simp only [Act.put, List.setIfInBounds_toArray, List.set_cons_zero, List.set_cons_succ]
    refine wpAnyH_take (i := 11) (v := ?fv11) rfl (by kernel_rfl) (by kernel_rfl) (by kernel_rfl) (fun _ _ _ h => h) (Or.inl ⟨by kernel_rfl, ?fy11⟩) hHeld ?_
    case fy11 => intro u hu; go_simp; try with_reducible rfl
    try simp only [Act.put, List.setIfInBounds_toArray, List.set_cons_zero, List.set_cons_succ]
    refine wpAnyH_take (i := 12) (v := ?fv12) rfl (by kernel_rfl) (by kernel_rfl) (by kernel_rfl) (fun _ _ _ h => h) (Or.inl ⟨by kernel_rfl, ?fy12⟩) hHeld ?_
    case fy12 => intro u hu; go_simp; try with_reducible rfl
    try simp only [Act.put, List.getElem_toArray, List.getElem_cons_succ, List.getElem_cons_zero, List.setIfInBounds_toArray, List.set_cons_zero, List.set_cons_succ]
    refine wpAnyH_done (by kernel_rfl) ?_ _
    have HB := Lib.hid (B1.out.trans (hHeld.mono B1.out.size))
    clear hHeld
    go_wp2
    go_ret
    exact ⟨rfl, HB.out⟩
end Go.Proofs.YtpelehhmdcjikaaGreatDoor

/-
  Layer 10, the program: a new object in its map (plain).
-/
namespace Go.Proofs.YtpelehhmdcjikaaGreatDoor
set_option maxRecDepth 20000
open Go.RowKit Go.Maps
set_option linter.unusedVariables false
set_option linter.unusedSimpArgs false
/-- Behind the making of a map, if one had to9 be made: the store's map is there. -/
structure KeepAt (S : Nat → Prop) (w w5 : World) (g b : Nat) (E : List Ent) : Prop where
  chg : Chg S w w5
  blk : w5.heap[g]? = some (.cells #[.map (some b)] 66 (0, 0))
  map : MapAt w5 b (celP E)
  inS : S b ∨ w.heap.size ≤ b
  ne : b ≠ g
  sg : S g
  ent : ∀ e ∈ E, okE e ∧ kindO e.c.kind ∧ RedS (fun k => S k ∧ k ≠ g ∧ k ≠ b) w5 e.v e.c.body
theorem redS_of_row {S : Nat → Prop} {w : World} {v : Value} {l : List UInt8} (h : Row w v l) (hS : ∀ g, foot v = some g → S g) : RedS S w v l := by
  obtain ⟨a, c, e, h1, h2, h3, h4⟩ := h.shape
  refine ⟨a, c, e, h3, h4, h1, h2, fun ad hp ha => ?_⟩
  rcases h with ⟨a', e', rfl⟩ | ⟨g, cap, cur, e', _⟩
  · exact absurd hp (Nat.lt_irrefl 0)
  · rw [e'] at e
    obtain ⟨rfl, -, -⟩ := Value.slice.inj e
    cases ha
    exact hS g (by rw [e']; rfl)
theorem KeepAt.put {S : Nat → Prop} {w w5 u u' : World} {g b : Nat} {E : List Ent} (h : KeepAt S w w5 g b E) (hu : Below w5.heap.size w5 u) {i : List UInt8} (hi : i.length = 20) {k : Int} (hk : kindO k) {v : Value} {l : List UInt8} (hr : Row u v l) (hf : ∀ g, foot v = some g → w5.heap.size ≤ g)
    (hm : MapAt u' b (celP E ++ [(.agg (arrD i), thingP k v)])) (hg : u.grownBy u' (some b)) :
    StoreP (fun j => S j ∨ w.heap.size ≤ j) u' g (E.map Ent.c ++ [⟨i, k, l⟩]) ∧ Chg S w u' := by
  have hb5 : b < w5.heap.size := h.map.lt
  have hg5 : g < w5.heap.size := lt_of_heap h.blk
  have hkeep : ∀ j, j < w5.heap.size → j ≠ b → u'.heap[j]? = w5.heap[j]? := fun j hj hn => (hg.block j (Nat.lt_of_lt_of_le hj hu.size) (fun e => hn (Option.some.inj e))).trans (hu.block j hj)
  have hsz : w5.heap.size ≤ u'.heap.size := Nat.le_trans hu.size hg.size
  have hr' : Row u' v l := hr.keep (fun j hj => hg.block j (hr.lt j hj) (fun e => by have h8 := hf j hj; have h9 := Option.some.inj e; omega))
  refine ⟨⟨.inl h.sg, E ++ [⟨⟨i, k, l⟩, v⟩], some b, by simp, (hkeep g hg5 (fun e => h.ne e.symm)).trans h.blk, ?_, fun e => (by cases e), ?_⟩, ?_⟩
  · intro e he
    rcases List.mem_append.1 he with he | he
    · obtain ⟨h1, h2, h3⟩ := h.ent e he
      refine ⟨h1, h2, ?_⟩
      have h4 : RedS (fun k => S k ∧ k ≠ g ∧ k ≠ b) u' e.v e.c.body := by
        obtain ⟨a, c, e1, e2, e3, e4, e5, e6⟩ := h3
        refine ⟨a, c, e1, e2.same hsz (fun ad hp ha => ?_), e3, e4, e5, e6⟩
        obtain ⟨q, o, q1, q2, _⟩ := e2 hp
        have q3 := e6 ad hp ha
        rw [q1] at ha
        cases ha
        exact hkeep q q2 q3.2.2
      exact h4.mono (fun j _ hj => ⟨.inl hj.1, hj.2.1, fun e => hj.2.2 (Option.some.inj e).symm⟩)
    · rw [List.mem_singleton] at he
      subst he
      refine ⟨⟨hi, ?_⟩, hk, redS_of_row hr' (fun j hj => ?_)⟩
      · obtain ⟨a, n, c, e⟩ := row_shape hr
        exact ⟨a, n, c, e⟩
      · have h8 := hf j hj
        have h9 := h.chg.size
        exact ⟨.inr (by omega), fun e => by omega, fun e => by have := Option.some.inj e; omega⟩
  · intro b' hb'
    cases hb'
    refine ⟨h.inS, h.ne, ?_⟩
    have e : celP (E ++ [⟨⟨i, k, l⟩, v⟩]) = celP E ++ [(.agg (arrD i), thingP k v)] := by simp [celP]
    rw [e]
    exact hm
  · refine (h.chg.more (Chg.of_below (S := fun _ => False) hu) (fun _ _ h => h.elim)).grown hg (fun j e hj => ?_)
    have e := Option.some.inj e
    subst e
    rcases h.inS with h | h
    · exact h
    · omega
end Go.Proofs.YtpelehhmdcjikaaGreatDoor

/-
  Layer 10, the program: an object put under its id (keep).
-/
namespace Go.Proofs.YtpelehhmdcjikaaGreatDoor
set_option maxRecDepth 100000
open Go.RowKit Go.Maps
set_option linter.unusedVariables false
set_option linter.unusedSimpArgs false
set_option maxHeartbeats 16000000 in
theorem keep_there {S : Nat → Prop} {w : World} {g : Nat} {M : List Cel} (h : StoreP S w g M) (i : List UInt8) (hi : i.length = 20) (k : Int) (v : Value) (l : List UInt8) (hv : Red w v l) (x : Cel) (hx : getM M i = some x) :
    Calls Tryz.prog 26 #[.pointer (some ⟨g, 0, none⟩), .agg (arrD i), .agg #[.int .i64 k, v]] w fun e w' => e = .returned (.int .i64 (pickE (x.kind == k && x.body == l))) ∧ Below w.heap.size w w' := by
  have hvr := hv
  obtain ⟨a, c, rfl, hb, hno, hc, hmx⟩ := hv
  obtain ⟨n, hn⟩ : ∃ n, l.length = n := ⟨_, rfl⟩
  obtain ⟨A1, hA1⟩ : ∃ A, arrD i = A := ⟨_, rfl⟩
  have sA : A1.size = 20 := by rw [← hA1]; exact arrD_size i hi
  rw [hn] at hno hc ⊢
  have b1 := (Below.refl w.heap.size w).alloc (Nat.le_refl _) (.cells A1 24)
  have b2 := b1.alloc b1.size (.cells #[.int .i64 k, .slice a n c] 34)
  have hs1 : (w.alloc (.cells A1 24)).heap.size = w.heap.size + 1 := by simp
  have h02 := heap_alloc_new (w.alloc (.cells A1 24)) (.cells #[.int .i64 k, .slice a n c] 34)
  have h01 := (((Below.refl (w.alloc (.cells A1 24)).heap.size (w.alloc (.cells A1 24))).alloc (Nat.le_refl _) (.cells #[.int .i64 k, .slice a n c] 34)).block w.heap.size (by simp)).trans (heap_alloc_new w (.cells A1 24))
  rw [hs1] at h02
  have B1 := Lib.hid b2
  obtain ⟨w1, hw1⟩ : ∃ w1, (w.alloc (.cells A1 24)).alloc (.cells #[.int .i64 k, .slice a n c] 34) = w1 := ⟨_, rfl⟩
  rw [hw1] at B1 h01 h02
  have H1 := Lib.hid h01; have H2 := Lib.hid h02
  have LA := Lib.hid (show (Tryz.prog.info? 24).map (·.size) = some A1.toList.length from by rw [Array.length_toList, sA]; exact infoD_n)
  obtain ⟨mb, tv, hl, hr, hkx, a', n', c', rfl⟩ := h.look_some hx
  obtain ⟨T, hT, hth⟩ := kind_ty hkx
  rw [hA1] at hl ⊢
  rw [hth] at hl
  have HL := Lib.hid (fun u (hu : Below w1.heap.size w1 u) => hl u (B1.out.trans (hu.mono B1.out.size)))
  have RA := Lib.hid (fun u (hu : Below w1.heap.size w1 u) => (row_arrD ((hu.block w.heap.size (lt_of_heap H1.out)).trans H1.out)))
  have CS := Lib.hid (fun u (hu : Below w.heap.size w u) => (by
    have q := sameP_is x.kind k hkx (.slice a' n' c') (.slice a n c) x.body l u ((hr.keep (Stays.of hu)).red) (by rw [← hn]; exact hvr.below hu (Nat.le_refl _))
    rw [hth] at q
    exact q : Calls Tryz.prog 55 #[.iface T (.agg #[.slice a' n' c']), .agg #[.int .i64 k, .slice a n c]] u _))
  obtain ⟨r, hrr⟩ : ∃ r, (x.kind == k && x.body == l) = r := ⟨_, rfl⟩
  rw [hrr] at CS ⊢
  clear h hl hr b1 b2 h01 h02 hs1 hb hno hc hmx hn sA hT hth hkx hvr hrr hx
  go_enter Tryz.func26, Tryz.ntmps26
  go_wp2_with fail
  refine wp_region_held_drew (S := fun u => Below w1.heap.size w1 u) (by kernel_rfl) (Below.refl _ _).drew (fun hHeld => ?_)
  refine wpAnyH_take (i := 0) (v := ?pv0) rfl (by kernel_rfl) (by kernel_rfl) (by kernel_rfl) (fun _ _ _ h => h) (Or.inl ⟨by kernel_rfl, ?py0⟩) hHeld ?_
  case py0 => intro u hu; go_simp; try with_reducible rfl
  try simp only [Act.put, List.setIfInBounds_toArray, List.set_cons_zero, List.set_cons_succ]
  refine wpAnyH_take (i := 1) (v := ?pv1) rfl (by kernel_rfl) (by kernel_rfl) (by kernel_rfl) (fun _ _ _ h => h) (Or.inl ⟨by kernel_rfl, ?py1⟩) hHeld ?_
  case py1 => intro u hu; go_simp; try with_reducible rfl
  try simp only [Act.put, List.setIfInBounds_toArray, List.set_cons_zero, List.set_cons_succ]
  refine wpAnyH_take (i := 2) (v := ?pv2) rfl (by kernel_rfl) (by kernel_rfl) (by kernel_rfl) (fun _ _ _ h => h) (Or.inl ⟨by kernel_rfl, ?py2⟩) hHeld ?_
  case py2 => intro u hu; go_simp; try with_reducible rfl
  try simp only [Act.put, List.setIfInBounds_toArray, List.set_cons_zero, List.set_cons_succ]
  refine wpAnyH_take (i := 3) (v := .map mb) rfl (by kernel_rfl) (by kernel_rfl) (by kernel_rfl) (fun _ _ _ h => h) (Or.inl ⟨by kernel_rfl, ?py3x⟩) hHeld ?_
  case py3x => intro u hu; have q := (HL.out u hu).1; go_simp
  try simp only [Act.put, List.setIfInBounds_toArray, List.set_cons_zero, List.set_cons_succ]
  refine wpAnyH_take (i := 4) rfl (by kernel_rfl) (by kernel_rfl) (by kernel_rfl) (fun _ _ _ h => h) (yieldsIf_load_mid (by kernel_rfl) 24 (.tmp 4) (by kernel_rfl) w.heap.size 0 (by kernel_rfl) A1.toList _ (fun u hu => RA.out u hu) Tryz.underlying24 rfl LA.out) hHeld ?_
  try simp only [Act.put, List.setIfInBounds_toArray, List.set_cons_zero, List.set_cons_succ]
  refine wpAnyH_take (i := 5) (v := .tuple #[.iface T (.agg #[.slice a' n' c']), .bool true]) rfl (by kernel_rfl) (by kernel_rfl) (by kernel_rfl) (fun _ _ _ h => h) (Or.inl ⟨by kernel_rfl, ?py5x⟩) hHeld ?_
  case py5x => intro u hu; have q := (HL.out u hu).2; go_simp
  try simp only [Act.put, List.setIfInBounds_toArray, List.set_cons_zero, List.set_cons_succ]
  refine wpAnyH_take (i := 6) (v := ?pv6) rfl (by kernel_rfl) (by kernel_rfl) (by kernel_rfl) (fun _ _ _ h => h) (Or.inl ⟨by kernel_rfl, ?py6⟩) hHeld ?_
  case py6 => intro u hu; go_simp; try with_reducible rfl
  try simp only [Act.put, List.setIfInBounds_toArray, List.set_cons_zero, List.set_cons_succ]
  refine wpAnyH_take (i := 7) (v := ?pv7) rfl (by kernel_rfl) (by kernel_rfl) (by kernel_rfl) (fun _ _ _ h => h) (Or.inl ⟨by kernel_rfl, ?py7⟩) hHeld ?_
  case py7 => intro u hu; go_simp; try with_reducible rfl
  try simp only [Act.put, List.setIfInBounds_toArray, List.set_cons_zero, List.set_cons_succ]
  refine wpAnyH_take (i := 8) (v := ?pv8) rfl (by kernel_rfl) (by kernel_rfl) (by kernel_rfl) (fun _ _ _ h => h) (Or.inl ⟨by kernel_rfl, ?py8⟩) hHeld ?_
  case py8 => intro u hu; go_simp; try with_reducible rfl
  try simp only [Act.put, List.setIfInBounds_toArray, List.set_cons_zero, List.set_cons_succ]
  refine wpAnyH_take (i := 9) (v := ?pv9) rfl (by kernel_rfl) (by kernel_rfl) (by kernel_rfl) (fun _ _ _ h => h) (Or.inl ⟨by kernel_rfl, ?py9⟩) hHeld ?_
  case py9 => intro u hu; go_simp; try with_reducible rfl
  try simp only [Act.put, List.setIfInBounds_toArray, List.set_cons_zero, List.set_cons_succ]
  refine wpAnyH_take (i := 10) (v := ?pv10) rfl (by kernel_rfl) (by kernel_rfl) (by kernel_rfl) (fun _ _ _ h => h) (Or.inl ⟨by kernel_rfl, ?py10⟩) hHeld ?_
  case py10 => intro u hu; go_simp; try with_reducible rfl
  try simp only [Act.put, List.getElem_toArray, List.getElem_cons_succ, List.getElem_cons_zero, List.setIfInBounds_toArray, List.set_cons_zero, List.set_cons_succ]
  refine wpAnyH_done (by kernel_rfl) ?_ _
  obtain ⟨w2, hw2⟩ : ∃ w2, w1.drew = w2 := ⟨_, rfl⟩
  rw [hw2] at hHeld ⊢
  have HB := Lib.hid (B1.out.trans (hHeld.mono B1.out.size))
  have h2b := (hHeld.block (w.heap.size + 1) (lt_of_heap H2.out)).trans H2.out
  have p0 : w2.cell? ⟨w.heap.size + 1, 0, none⟩ = some (.int .i64 k) := by rw [Lib.cell_of_heap h2b]; rfl
  have p1 : w2.cell? ⟨w.heap.size + 1, 1, none⟩ = some (.slice a n c) := by rw [Lib.cell_of_heap h2b]; rfl
  clear hHeld h2b hw2
  cases r with
  | true =>
    go_wp2_with fail
    refine (CS.out _ HB.out).mono ?_
    rintro e w3 ⟨rfl, hb3⟩
    have HB3 := Lib.hid (HB.out.trans (hb3.mono HB.out.size))
    clear hb3 p0 p1
    go_wp2
    go_ret
    exact ⟨rfl, HB3.out⟩
  | false =>
    go_wp2_with fail
    refine (CS.out _ HB.out).mono ?_
    rintro e w3 ⟨rfl, hb3⟩
    have HB3 := Lib.hid (HB.out.trans (hb3.mono HB.out.size))
    clear hb3 p0 p1
    go_wp2
    go_ret
    exact ⟨rfl, HB3.out⟩
end Go.Proofs.YtpelehhmdcjikaaGreatDoor

/-
  Layer 10, the program: an object put under its id (keep): a new one.
-/
namespace Go.Proofs.YtpelehhmdcjikaaGreatDoor
set_option maxRecDepth 100000
open Go.RowKit Go.Maps
set_option linter.unusedVariables false
set_option linter.unusedSimpArgs false
set_option maxHeartbeats 32000000 in
theorem keep_some {S : Nat → Prop} {w : World} {g b : Nat} {M : List Cel} (h : StoreP S w g M) (hbc : w.cell? ⟨g, 0, none⟩ = some (.map (some b))) (i : List UInt8) (hi : i.length = 20) (k : Int) (hk : kindO k) (v : Value) (l : List UInt8) (hv : Red w v l) (hl65 : l.length ≤ 65536) (hx : getM M i = none) (hM : M.length < 5000) :
    Calls Tryz.prog 26 #[.pointer (some ⟨g, 0, none⟩), .agg (arrD i), .agg #[.int .i64 k, v]] w fun e w' => e = .returned (.int .i64 0) ∧ StoreP (fun j => S j ∨ w.heap.size ≤ j) w' g (M ++ [⟨i, k, l⟩]) ∧ Chg S w w' := by
  obtain ⟨a, c, rfl, hb, hno, hc, hmx⟩ := hv
  obtain ⟨n, hn⟩ : ∃ n, l.length = n := ⟨_, rfl⟩
  obtain ⟨A1, hA1⟩ : ∃ A, arrD i = A := ⟨_, rfl⟩
  have sA : A1.size = 20 := by rw [← hA1]; exact arrD_size i hi
  rw [hn] at hno hc ⊢
  have b1 := (Below.refl w.heap.size w).alloc (Nat.le_refl _) (.cells A1 24)
  have b2 := b1.alloc b1.size (.cells #[.int .i64 k, .slice a n c] 34)
  have hs1 : (w.alloc (.cells A1 24)).heap.size = w.heap.size + 1 := by simp
  have h02 := heap_alloc_new (w.alloc (.cells A1 24)) (.cells #[.int .i64 k, .slice a n c] 34)
  have h01 := (((Below.refl (w.alloc (.cells A1 24)).heap.size (w.alloc (.cells A1 24))).alloc (Nat.le_refl _) (.cells #[.int .i64 k, .slice a n c] 34)).block w.heap.size (by simp)).trans (heap_alloc_new w (.cells A1 24))
  rw [hs1] at h02
  have B1 := Lib.hid b2
  obtain ⟨w1, hw1⟩ : ∃ w1, (w.alloc (.cells A1 24)).alloc (.cells #[.int .i64 k, .slice a n c] 34) = w1 := ⟨_, rfl⟩
  rw [hw1] at B1 h01 h02
  have H1 := Lib.hid h01; have H2 := Lib.hid h02
  have LA := Lib.hid (show (Tryz.prog.info? 24).map (·.size) = some A1.toList.length from by rw [Array.length_toList, sA]; exact infoD_n)
  obtain ⟨mb, hl⟩ := h.look_none hi hx
  obtain ⟨hg, E, mb2, hE, hblk, hent, hnone, hmap⟩ := h
  have hc2 : w.cell? ⟨g, 0, none⟩ = some (.map mb2) := by rw [Lib.cell_of_heap hblk]; rfl
  obtain rfl : mb2 = some b := by rw [hbc] at hc2; exact (Value.map.inj (Option.some.inj hc2)).symm
  obtain rfl : mb = some b := by have q := (hl w (Below.refl _ _)).1; rw [hbc] at q; exact (Value.map.inj (Option.some.inj q)).symm
  obtain ⟨hSb, hbg, hMap⟩ := hmap b rfl
  have hEl : (celP E).length = M.length := by rw [← hE]; simp [celP]
  rw [hA1] at hl ⊢
  have HL := Lib.hid (fun u (hu : Below w1.heap.size w1 u) => hl u (B1.out.trans (hu.mono B1.out.size)))
  have RA := Lib.hid (fun u (hu : Below w1.heap.size w1 u) => (row_arrD ((hu.block w.heap.size (lt_of_heap H1.out)).trans H1.out)))
  have hk0 : ∀ w5, Below w.heap.size w w5 → KeepAt S w w5 g b E := fun w5 h5 =>
    ⟨Chg.of_below h5, (h5.block g (lt_of_heap hblk)).trans hblk, hMap.keep (h5.block b hMap.lt), .inl hSb, hbg, hg, fun e he => ⟨(hent e he).1, (hent e he).2.1, ((hent e he).2.2.keep (Stays.of h5)).mono (fun j _ hj => ⟨hj.1, hj.2.1, fun e => hj.2.2 (by rw [e])⟩)⟩⟩
  have hnewE : ∀ m ∈ celP E, m.1 ≠ .agg (arrD i) := fun m hm he => by
    obtain ⟨e, hee, rfl⟩ := List.mem_map.1 hm
    exact getM_none hx e.c (by rw [← hE]; exact List.mem_map.2 ⟨e, hee, rfl⟩) (arrD_inj (Value.agg.inj he))
  have hroomE : (celP E).length < maxLen := by rw [hEl]; unfold maxLen; omega
  have hlen := fun u (hu : Below w.heap.size w u) ty => (by
    have q := (hMap.keep (hu.block b hMap.lt)).length Tryz.underlying64 ty
    rw [hEl] at q
    exact q : (Builtin.len_ #[64] ty #[.map (some b)]).run Tryz.prog u = .ok (goInt M.length) u)
  obtain ⟨N, hN⟩ : ∃ N, M.length = N := ⟨_, rfl⟩
  rw [hN] at hlen hM
  have g1 : (N : Int) < 5000 := by omega
  have hq := fun w => run_eql_map_nil_sl (P := Tryz.prog) w 64 _ _ (some b) Tryz.underlying64
  have HLN := Lib.hid hlen; have HK0 := Lib.hid hk0; have HE := Lib.hid hE; have HB0 := Lib.hid hb
  clear hl hlen hk0 hblk hent hnone hmap hMap hSb hbg hg hc2 hE hEl hbc hc hmx hx hb b1 b2 hs1 h01 h02 sA
  go_enter Tryz.func26, Tryz.ntmps26
  go_wp2_with fail
  refine wp_region_held_drew (S := fun u => Below w1.heap.size w1 u) (by kernel_rfl) (Below.refl _ _).drew (fun hHeld => ?_)
  refine wpAnyH_take (i := 0) (v := ?pv0) rfl (by kernel_rfl) (by kernel_rfl) (by kernel_rfl) (fun _ _ _ h => h) (Or.inl ⟨by kernel_rfl, ?py0⟩) hHeld ?_
  case py0 => intro u hu; go_simp; try with_reducible rfl
  try simp only [Act.put, List.setIfInBounds_toArray, List.set_cons_zero, List.set_cons_succ]
  refine wpAnyH_take (i := 1) (v := ?pv1) rfl (by kernel_rfl) (by kernel_rfl) (by kernel_rfl) (fun _ _ _ h => h) (Or.inl ⟨by kernel_rfl, ?py1⟩) hHeld ?_
  case py1 => intro u hu; go_simp; try with_reducible rfl
  try simp only [Act.put, List.setIfInBounds_toArray, List.set_cons_zero, List.set_cons_succ]
  refine wpAnyH_take (i := 2) (v := ?pv2) rfl (by kernel_rfl) (by kernel_rfl) (by kernel_rfl) (fun _ _ _ h => h) (Or.inl ⟨by kernel_rfl, ?py2⟩) hHeld ?_
  case py2 => intro u hu; go_simp; try with_reducible rfl
  try simp only [Act.put, List.setIfInBounds_toArray, List.set_cons_zero, List.set_cons_succ]
  refine wpAnyH_take (i := 3) (v := .map (some b)) rfl (by kernel_rfl) (by kernel_rfl) (by kernel_rfl) (fun _ _ _ h => h) (Or.inl ⟨by kernel_rfl, ?py3x⟩) hHeld ?_
  case py3x => intro u hu; have q := (HL.out u hu).1; go_simp
  try simp only [Act.put, List.setIfInBounds_toArray, List.set_cons_zero, List.set_cons_succ]
  refine wpAnyH_take (i := 4) rfl (by kernel_rfl) (by kernel_rfl) (by kernel_rfl) (fun _ _ _ h => h) (yieldsIf_load_mid (by kernel_rfl) 24 (.tmp 4) (by kernel_rfl) w.heap.size 0 (by kernel_rfl) A1.toList _ (fun u hu => RA.out u hu) Tryz.underlying24 rfl LA.out) hHeld ?_
  try simp only [Act.put, List.setIfInBounds_toArray, List.set_cons_zero, List.set_cons_succ]
  refine wpAnyH_take (i := 5) (v := .tuple #[.nilIface, .bool false]) rfl (by kernel_rfl) (by kernel_rfl) (by kernel_rfl) (fun _ _ _ h => h) (Or.inl ⟨by kernel_rfl, ?py5x⟩) hHeld ?_
  case py5x => intro u hu; have q := (HL.out u hu).2; go_simp
  try simp only [Act.put, List.setIfInBounds_toArray, List.set_cons_zero, List.set_cons_succ]
  refine wpAnyH_take (i := 6) (v := ?pv6) rfl (by kernel_rfl) (by kernel_rfl) (by kernel_rfl) (fun _ _ _ h => h) (Or.inl ⟨by kernel_rfl, ?py6⟩) hHeld ?_
  case py6 => intro u hu; go_simp; try with_reducible rfl
  try simp only [Act.put, List.setIfInBounds_toArray, List.set_cons_zero, List.set_cons_succ]
  refine wpAnyH_take (i := 7) (v := ?pv7) rfl (by kernel_rfl) (by kernel_rfl) (by kernel_rfl) (fun _ _ _ h => h) (Or.inl ⟨by kernel_rfl, ?py7⟩) hHeld ?_
  case py7 => intro u hu; go_simp; try with_reducible rfl
  try simp only [Act.put, List.setIfInBounds_toArray, List.set_cons_zero, List.set_cons_succ]
  refine wpAnyH_take (i := 8) (v := ?pv8) rfl (by kernel_rfl) (by kernel_rfl) (by kernel_rfl) (fun _ _ _ h => h) (Or.inl ⟨by kernel_rfl, ?py8⟩) hHeld ?_
  case py8 => intro u hu; go_simp; try with_reducible rfl
  try simp only [Act.put, List.setIfInBounds_toArray, List.set_cons_zero, List.set_cons_succ]
  refine wpAnyH_take (i := 9) (v := ?pv9) rfl (by kernel_rfl) (by kernel_rfl) (by kernel_rfl) (fun _ _ _ h => h) (Or.inl ⟨by kernel_rfl, ?py9⟩) hHeld ?_
  case py9 => intro u hu; go_simp; try with_reducible rfl
  try simp only [Act.put, List.setIfInBounds_toArray, List.set_cons_zero, List.set_cons_succ]
  refine wpAnyH_take (i := 10) (v := ?pv10) rfl (by kernel_rfl) (by kernel_rfl) (by kernel_rfl) (fun _ _ _ h => h) (Or.inl ⟨by kernel_rfl, ?py10⟩) hHeld ?_
  case py10 => intro u hu; go_simp; try with_reducible rfl
  try simp only [Act.put, List.getElem_toArray, List.getElem_cons_succ, List.getElem_cons_zero, List.setIfInBounds_toArray, List.set_cons_zero, List.set_cons_succ]
  refine wpAnyH_done (by kernel_rfl) ?_ _
  obtain ⟨w2, hw2⟩ : ∃ w2, w1.drew = w2 := ⟨_, rfl⟩
  rw [hw2] at hHeld ⊢
  have HB := Lib.hid (B1.out.trans (hHeld.mono B1.out.size))
  have K1 := Lib.hid ((hHeld.block w.heap.size (lt_of_heap H1.out)).trans H1.out)
  have K2 := Lib.hid ((hHeld.block (w.heap.size + 1) (lt_of_heap H2.out)).trans H2.out)
  have pg := (HL.out _ hHeld).1
  have hl2 := HLN.out w2 HB.out
  clear hHeld hw2
  go_wp2_with fail
  have hk5 := HK0.out w2 HB.out
  have ha5 := K1.out
  have ho5 := K2.out
  have hba := fun u (hu : Below w2.heap.size w2 u) => HB0.out.keep (HB.out.trans (hu.mono HB.out.size))
  clear pg hl2
  have HK := Lib.hid hk5; have HB5 := Lib.hid (Below.refl w2.heap.size w2)
  have G5 := Lib.hid (fun u (hu : Below w2.heap.size w2 u) => (by
    rw [Lib.cell_of_heap ((hu.block g (lt_of_heap hk5.blk)).trans hk5.blk)]
    rfl : u.cell? ⟨g, 0, none⟩ = some (.map (some b))))
  have A5 := Lib.hid (fun u (hu : Below w2.heap.size w2 u) => (row_arrD ((hu.block w.heap.size (lt_of_heap ha5)).trans ha5)))
  have O5 := Lib.hid (fun u (hu : Below w2.heap.size w2 u) => (by
    have hq := (hu.block (w.heap.size + 1) (lt_of_heap ho5)).trans ho5
    intro j v hv
    rw [Nat.zero_add, Lib.cell_of_heap hq]
    match j, hv with
    | 0, hv => simpa using hv
    | 1, hv => simpa using hv
    | j + 2, hv => simp at hv : u.rangeAt (w.heap.size + 1) 0 [.int .i64 k, .slice a n c]))
  have LO := Lib.hid (show (Tryz.prog.info? 34).map (·.size) = some ([Value.int .i64 k, .slice a n c] : List Value).length from infoOb)
  have CT := Lib.hid (fun u (hu : Below w2.heap.size w2 u) => typedP_is k hk a n c l u hn.symm (hba u hu) hno (by omega))
  have PU := Lib.hid (fun u (hu : Below w2.heap.size w2 u) (tv : Value) => (by
    have q := (hk5.map.keep (hu.block b hk5.map.lt)).put (v := tv) idKeyed Tryz.underlying64 (celP_keys (fun e he => (hk5.ent e he).1)) (key_idL i hi) hnewE hroomE
    rw [hA1] at q
    exact q : ∃ w', (Instr.mapUpdate 64 (.map (some b)) (.agg A1) tv).run Tryz.prog u = .ok () w' ∧ MapAt w' b (celP E ++ [(.agg A1, tv)]) ∧ u.grownBy w' (some b) ∧ w'.heap.size = u.heap.size))
  have KI := Lib.hid hi; have KK := Lib.hid hk; have KA := Lib.hid hA1
  obtain ⟨T, hT, hth⟩ := kind_ty hk
  have TH := Lib.hid hth
  clear hk5 ha5 ho5 hba hnewE hroomE hn hno hk hi hA1 hT hth
  refine wp_regionX (S := fun u => Below w2.heap.size w2 u) (fun j => j == 7) (by kernel_rfl) (Below.refl _ _).drew (fun hHeld => ?_)
  refine wpAnyX_take (i := 0) (v := ?sv0) rfl (by kernel_rfl) (by kernel_rfl) (by kernel_rfl) (by kernel_rfl) (fun _ _ _ h => h) (Or.inl ⟨by kernel_rfl, ?sy0⟩) hHeld ?_
  case sy0 => intro u hu; go_simp; try with_reducible rfl
  try simp only [Act.put, List.setIfInBounds_toArray, List.set_cons_zero, List.set_cons_succ]
  refine wpAnyX_take (i := 1) (v := ?sv1) rfl (by kernel_rfl) (by kernel_rfl) (by kernel_rfl) (by kernel_rfl) (fun _ _ _ h => h) (Or.inl ⟨by kernel_rfl, ?sy1⟩) hHeld ?_
  case sy1 => intro u hu; go_simp; try with_reducible rfl
  try simp only [Act.put, List.setIfInBounds_toArray, List.set_cons_zero, List.set_cons_succ]
  refine wpAnyX_take (i := 2) (v := ?sv2) rfl (by kernel_rfl) (by kernel_rfl) (by kernel_rfl) (by kernel_rfl) (fun _ _ _ h => h) (Or.inl ⟨by kernel_rfl, ?sy2⟩) hHeld ?_
  case sy2 => intro u hu; go_simp; try with_reducible rfl
  try simp only [Act.put, List.setIfInBounds_toArray, List.set_cons_zero, List.set_cons_succ]
  refine wpAnyX_take (i := 3) (v := .map (some b)) rfl (by kernel_rfl) (by kernel_rfl) (by kernel_rfl) (by kernel_rfl) (fun _ _ _ h => h) (Or.inl ⟨by kernel_rfl, ?sy3x⟩) hHeld ?_
  case sy3x => intro u hu; have q := G5.out u hu; go_simp
  try simp only [Act.put, List.setIfInBounds_toArray, List.set_cons_zero, List.set_cons_succ]
  refine wpAnyX_take (i := 4) rfl (by kernel_rfl) (by kernel_rfl) (by kernel_rfl) (by kernel_rfl) (fun _ _ _ h => h) (yieldsIf_load_mid (by kernel_rfl) 24 (.tmp 4) (by kernel_rfl) w.heap.size 0 (by kernel_rfl) A1.toList _ (fun u hu => A5.out u hu) Tryz.underlying24 rfl LA.out) hHeld ?_
  try simp only [Act.put, List.setIfInBounds_toArray, List.set_cons_zero, List.set_cons_succ]
  refine wpAnyX_take (i := 5) rfl (by kernel_rfl) (by kernel_rfl) (by kernel_rfl) (by kernel_rfl) (fun _ _ _ h => h) (yieldsIf_load_mid (by kernel_rfl) 34 (.tmp 5) (by kernel_rfl) (w.heap.size + 1) 0 (by kernel_rfl) [.int .i64 k, .slice a n c] _ (fun u hu => O5.out u hu) Tryz.underlying34 rfl LO.out) hHeld ?_
  try simp only [Act.put, List.setIfInBounds_toArray, List.set_cons_zero, List.set_cons_succ]
  refine wpAnyX_ready (rs := [6]) (by kernel_rfl) (by simp) ?_
  refine AllReadyX.cons rfl (fun K hK => ?_) AllReadyX.nil
  go_simp
  refine (CT.out _ hHeld).mono ?_
  rintro e u1 ⟨v1, rfl, hr1, hf1, hI⟩
  have hF := fun q hq => Nat.le_trans hHeld.size (hf1 q hq)
  have hH := hHeld.trans (hI.mono hHeld.size)
  clear hHeld hI hf1
  obtain ⟨a1, n1, c1, rfl⟩ := row_shape hr1
  have R1 := Lib.hid hr1
  have F1 := Lib.hid hF
  clear hr1 hF
  rw [TH.out]
  refine hK.out _ _ (.inl hH) (fun _ => ?_)
  have hHeld := hH
  clear hK K
  try simp only [Act.put, List.setIfInBounds_toArray, List.set_cons_zero, List.set_cons_succ]
  refine wpAnyX_ready (rs := [7]) (by kernel_rfl) (by simp) ?_
  refine AllReadyX.cons rfl (fun K hK => ?_) AllReadyX.nil
  obtain ⟨u2, hrun, hm2, hg2, hs2⟩ := PU.out _ hHeld (.iface T (.agg #[.slice a1 n1 c1]))
  have HM := Lib.hid hm2
  have HG := Lib.hid hg2
  have HU := Lib.hid hHeld
  clear hm2 hg2 hs2 hHeld
  go_simp
  refine hK.out _ _ (.inr rfl) (fun _ => ?_)
  clear hK K
  try simp only [Act.put, List.getElem_toArray, List.getElem_cons_succ, List.getElem_cons_zero, List.setIfInBounds_toArray, List.set_cons_zero, List.set_cons_succ]
  refine wpAnyX_done (by kernel_rfl) ?_ _
  have FIN := Lib.hid (HK.out.put (i := i) (k := k) HU.out KI.out KK.out R1.out F1.out (by rw [KA.out, TH.out]; exact HM.out) HG.out)
  rw [HE.out] at FIN
  clear HM HG HU R1 F1 HK
  go_wp2
  go_ret
  exact ⟨rfl, FIN.out⟩
end Go.Proofs.YtpelehhmdcjikaaGreatDoor
