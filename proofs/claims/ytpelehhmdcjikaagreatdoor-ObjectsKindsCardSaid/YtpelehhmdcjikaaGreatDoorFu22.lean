/-
  Texts that belong together, one behind the other.
-/
import Derived.Test.YtpelehhmdcjikaaGreatDoorFu07
import Derived.Test.YtpelehhmdcjikaaGreatDoorFu21
import Derived.Shelf.SlMaps.Clone
import Derived.Test.YtpelehhmdcjikaaGreatDoorFu13
import Derived.Test.YtpelehhmdcjikaaGreatDoorFu03
import Derived.Test.YtpelehhmdcjikaaGreatDoorFu06
import Derived.Lib.Bytealg
import Derived.Lib.BytesEntry
import Derived.Test.YtpelehhmdcjikaaGreatDoorFu05
import Derived.Lib.UnsafeStr
import Derived.Shelf.SlSortCmp.WholeK
import Derived.OwnWalkIn
import Derived.TacticsInMore
import Derived.RangeFuncNested
import Derived.RangeFuncBound
import Derived.RangeFuncCalls
import Derived.RangeFuncLeaves
import Derived.RangeFuncGives
import Derived.RangeFuncStops
import Derived.RangeFuncOne
import Derived.Maps.AppendAt
import Derived.Shelf.AbstractIn
import Derived.WalkKit
import Derived.RegionIn
import Derived.LoopNIn
import Derived.LoopIn
/-
  Layer 10, the program: an object put under its id (keep): the first one.
-/
namespace Go.Proofs.YtpelehhmdcjikaaGreatDoor
set_option maxRecDepth 100000
open Go.RowKit Go.Maps
set_option linter.unusedVariables false
set_option linter.unusedSimpArgs false
set_option maxHeartbeats 32000000 in
theorem keep_nil {S : Nat → Prop} {w : World} {g : Nat} {M : List Cel} (h : StoreP S w g M) (hbc : w.cell? ⟨g, 0, none⟩ = some (.map none)) (i : List UInt8) (hi : i.length = 20) (k : Int) (hk : kindO k) (v : Value) (l : List UInt8) (hv : Red w v l) (hl65 : l.length ≤ 65536) (hx : getM M i = none) :
    Calls Tryz.prog 26 #[.pointer (some ⟨g, 0, none⟩), .agg (arrD i), .agg #[.int .i64 k, v]] w fun e w' => e = .returned (.int .i64 0) ∧ StoreP (fun j => S j ∨ w.heap.size ≤ j) w' g (M ++ [⟨i, k, l⟩]) ∧ Chg S w w' := by
  obtain ⟨a, c, rfl, hb, hno, hc, hmx⟩ := hv
  obtain ⟨n, hn⟩ : ∃ n, l.length = n := ⟨_, rfl⟩
  obtain ⟨A1, hA1⟩ : ∃ A, arrD i = A := ⟨_, rfl⟩
  have sA : A1.size = 20 := by rw [← hA1]; exact arrD_size i hi
  rw [hn] at hno hc ⊢
  have b1 := (Below.refl w.heap.size w).alloc (Nat.le_refl _) (.cells A1 24)
  have b2 := b1.alloc b1.size (.cells #[.int .i64 k, .slice a n c] 34)
  have hs1 : (w.alloc (.cells A1 24)).heap.size = w.heap.size + 1 := by simp
  have h02 := heap_alloc_new (w.alloc (.cells A1 24)) (.cells #[.int .i64 k, .slice a n c] 34)
  have h01 := (((Below.refl (w.alloc (.cells A1 24)).heap.size (w.alloc (.cells A1 24))).alloc (Nat.le_refl _) (.cells #[.int .i64 k, .slice a n c] 34)).block w.heap.size (by simp)).trans (heap_alloc_new w (.cells A1 24))
  rw [hs1] at h02
  have B1 := Lib.hid b2
  obtain ⟨w1, hw1⟩ : ∃ w1, (w.alloc (.cells A1 24)).alloc (.cells #[.int .i64 k, .slice a n c] 34) = w1 := ⟨_, rfl⟩
  rw [hw1] at B1 h01 h02
  have H1 := Lib.hid h01; have H2 := Lib.hid h02
  have LA := Lib.hid (show (Tryz.prog.info? 24).map (·.size) = some A1.toList.length from by rw [Array.length_toList, sA]; exact infoD_n)
  obtain ⟨mb, hl⟩ := h.look_none hi hx
  obtain ⟨hg, E, mb2, hE, hblk, hent, hnone, hmap⟩ := h
  have hc2 : w.cell? ⟨g, 0, none⟩ = some (.map mb2) := by rw [Lib.cell_of_heap hblk]; rfl
  obtain rfl : mb2 = none := by rw [hbc] at hc2; exact (Value.map.inj (Option.some.inj hc2)).symm
  obtain rfl : mb = none := by have q := (hl w (Below.refl _ _)).1; rw [hbc] at q; exact (Value.map.inj (Option.some.inj q)).symm
  obtain rfl : E = [] := hnone rfl
  obtain rfl : M = [] := hE.symm
  rw [hA1] at hl ⊢
  have HL := Lib.hid (fun u (hu : Below w1.heap.size w1 u) => hl u (B1.out.trans (hu.mono B1.out.size)))
  have RA := Lib.hid (fun u (hu : Below w1.heap.size w1 u) => (row_arrD ((hu.block w.heap.size (lt_of_heap H1.out)).trans H1.out)))
  have hnewE : ∀ m ∈ celP [], m.1 ≠ .agg (arrD i) := fun m hm => by cases hm
  have hroomE : (celP []).length < maxLen := by simp [celP, maxLen]
  have hlen := fun u ty => run_len_nilMap (P := Tryz.prog) u 64 ty (by kernel_rfl)
  have hq := fun w => run_eql_map_nil_sl (P := Tryz.prog) w 64 _ _ none Tryz.underlying64
  have HB0 := Lib.hid hb; have HG0 := Lib.hid hblk; have SG := Lib.hid hg
  clear hl hblk hent hnone hmap hg hc2 hbc hc hmx hx hb b1 b2 hs1 h01 h02 sA
  go_enter Tryz.func26, Tryz.ntmps26
  go_wp2_with fail
  refine wp_region_held_drew (S := fun u => Below w1.heap.size w1 u) (by kernel_rfl) (Below.refl _ _).drew (fun hHeld => ?_)
  refine wpAnyH_take (i := 0) (v := ?pv0) rfl (by kernel_rfl) (by kernel_rfl) (by kernel_rfl) (fun _ _ _ h => h) (Or.inl ⟨by kernel_rfl, ?py0⟩) hHeld ?_
  case py0 => intro u hu; go_simp; try with_reducible rfl
  try simp only [Act.put, List.setIfInBounds_toArray, List.set_cons_zero, List.set_cons_succ]
  refine wpAnyH_take (i := 1) (v := ?pv1) rfl (by kernel_rfl) (by kernel_rfl) (by kernel_rfl) (fun _ _ _ h => h) (Or.inl ⟨by kernel_rfl, ?py1⟩) hHeld ?_
  case py1 => intro u hu; go_simp; try with_reducible rfl
  try simp only [Act.put, List.setIfInBounds_toArray, List.set_cons_zero, List.set_cons_succ]
  refine wpAnyH_take (i := 2) (v := ?pv2) rfl (by kernel_rfl) (by kernel_rfl) (by kernel_rfl) (fun _ _ _ h => h) (Or.inl ⟨by kernel_rfl, ?py2⟩) hHeld ?_
  case py2 => intro u hu; go_simp; try with_reducible rfl
  try simp only [Act.put, List.setIfInBounds_toArray, List.set_cons_zero, List.set_cons_succ]
  refine wpAnyH_take (i := 3) (v := .map none) rfl (by kernel_rfl) (by kernel_rfl) (by kernel_rfl) (fun _ _ _ h => h) (Or.inl ⟨by kernel_rfl, ?py3x⟩) hHeld ?_
  case py3x => intro u hu; have q := (HL.out u hu).1; go_simp
  try simp only [Act.put, List.setIfInBounds_toArray, List.set_cons_zero, List.set_cons_succ]
  refine wpAnyH_take (i := 4) rfl (by kernel_rfl) (by kernel_rfl) (by kernel_rfl) (fun _ _ _ h => h) (yieldsIf_load_mid (by kernel_rfl) 24 (.tmp 4) (by kernel_rfl) w.heap.size 0 (by kernel_rfl) A1.toList _ (fun u hu => RA.out u hu) Tryz.underlying24 rfl LA.out) hHeld ?_
  try simp only [Act.put, List.setIfInBounds_toArray, List.set_cons_zero, List.set_cons_succ]
  refine wpAnyH_take (i := 5) (v := .tuple #[.nilIface, .bool false]) rfl (by kernel_rfl) (by kernel_rfl) (by kernel_rfl) (fun _ _ _ h => h) (Or.inl ⟨by kernel_rfl, ?py5x⟩) hHeld ?_
  case py5x => intro u hu; have q := (HL.out u hu).2; go_simp
  try simp only [Act.put, List.setIfInBounds_toArray, List.set_cons_zero, List.set_cons_succ]
  refine wpAnyH_take (i := 6) (v := ?pv6) rfl (by kernel_rfl) (by kernel_rfl) (by kernel_rfl) (fun _ _ _ h => h) (Or.inl ⟨by kernel_rfl, ?py6⟩) hHeld ?_
  case py6 => intro u hu; go_simp; try with_reducible rfl
  try simp only [Act.put, List.setIfInBounds_toArray, List.set_cons_zero, List.set_cons_succ]
  refine wpAnyH_take (i := 7) (v := ?pv7) rfl (by kernel_rfl) (by kernel_rfl) (by kernel_rfl) (fun _ _ _ h => h) (Or.inl ⟨by kernel_rfl, ?py7⟩) hHeld ?_
  case py7 => intro u hu; go_simp; try with_reducible rfl
  try simp only [Act.put, List.setIfInBounds_toArray, List.set_cons_zero, List.set_cons_succ]
  refine wpAnyH_take (i := 8) (v := ?pv8) rfl (by kernel_rfl) (by kernel_rfl) (by kernel_rfl) (fun _ _ _ h => h) (Or.inl ⟨by kernel_rfl, ?py8⟩) hHeld ?_
  case py8 => intro u hu; go_simp; try with_reducible rfl
  try simp only [Act.put, List.setIfInBounds_toArray, List.set_cons_zero, List.set_cons_succ]
  refine wpAnyH_take (i := 9) (v := ?pv9) rfl (by kernel_rfl) (by kernel_rfl) (by kernel_rfl) (fun _ _ _ h => h) (Or.inl ⟨by kernel_rfl, ?py9⟩) hHeld ?_
  case py9 => intro u hu; go_simp; try with_reducible rfl
  try simp only [Act.put, List.setIfInBounds_toArray, List.set_cons_zero, List.set_cons_succ]
  refine wpAnyH_take (i := 10) (v := ?pv10) rfl (by kernel_rfl) (by kernel_rfl) (by kernel_rfl) (fun _ _ _ h => h) (Or.inl ⟨by kernel_rfl, ?py10⟩) hHeld ?_
  case py10 => intro u hu; go_simp; try with_reducible rfl
  try simp only [Act.put, List.getElem_toArray, List.getElem_cons_succ, List.getElem_cons_zero, List.setIfInBounds_toArray, List.set_cons_zero, List.set_cons_succ]
  refine wpAnyH_done (by kernel_rfl) ?_ _
  obtain ⟨w2, hw2⟩ : ∃ w2, w1.drew = w2 := ⟨_, rfl⟩
  rw [hw2] at hHeld ⊢
  have HB := Lib.hid (B1.out.trans (hHeld.mono B1.out.size))
  have K1 := Lib.hid ((hHeld.block w.heap.size (lt_of_heap H1.out)).trans H1.out)
  have K2 := Lib.hid ((hHeld.block (w.heap.size + 1) (lt_of_heap H2.out)).trans H2.out)
  have pg := (HL.out _ hHeld).1
  have G2 := Lib.hid ((hHeld.block g (Nat.lt_of_lt_of_le (lt_of_heap HG0.out) B1.out.size)).trans ((B1.out.block g (lt_of_heap HG0.out)).trans HG0.out))
  clear hHeld hw2
  have hmm := @run_makeMap Tryz.prog
  obtain ⟨w3, hw3⟩ : ∃ w3, w2.alloc (.map #[] 0) = w3 := ⟨_, rfl⟩
  have gl : g < w2.heap.size := lt_of_heap G2.out
  have GL := Lib.hid gl
  have G3 : w3.heap[g]? = some (.cells #[.map none] 66 (0, 0)) := by rw [← hw3]; exact (Below.heap_alloc w2 _ g gl).trans G2.out
  have c3 : w3.cell? ⟨g, 0, none⟩ = some (.map none) := by rw [Lib.cell_of_heap G3]; rfl
  have f3 : w3.frozen? ⟨g, 0, none⟩ = false := by simp [World.frozen?, G3]
  have H3 := Lib.hid G3
  have M3 := Lib.hid (show MapAt w3 w2.heap.size [] by rw [← hw3]; exact MapAt.made w2)
  have K13 := Lib.hid (show w3.heap[w.heap.size]? = some (.cells A1 24 (0, 0)) by rw [← hw3]; exact (Below.heap_alloc w2 _ _ (lt_of_heap K1.out)).trans K1.out)
  have K23 := Lib.hid (show w3.heap[w.heap.size + 1]? = some (.cells #[.int .i64 k, .slice a n c] 34 (0, 0)) by rw [← hw3]; exact (Below.heap_alloc w2 _ _ (lt_of_heap K2.out)).trans K2.out)
  have C3 := Lib.hid (show Chg S w w3 by rw [← hw3]; exact (Chg.of_below HB.out).alloc _)
  have L3 := Lib.hid (lt_of_heap HG0.out)
  clear G3 gl
  go_wp2_with fail
  obtain ⟨b, hbb⟩ : ∃ b, w2.heap.size = b := ⟨_, rfl⟩
  obtain ⟨w5, hw5⟩ : ∃ w5, w3.setCell ⟨g, 0, none⟩ (.map (some w2.heap.size)) = w5 := ⟨_, rfl⟩
  rw [hw5, hbb]
  rw [hbb] at hw5 M3
  have gnb : g < b := by rw [← hbb]; exact GL.out
  have hoth : ∀ j, j ≠ g → w5.heap[j]? = w3.heap[j]? := fun j hj => by rw [← hw5]; exact heap_setCell_other w3 ⟨g, 0, none⟩ j _ hj
  have hg5 : w5.heap[g]? = some (.cells #[.map (some b)] 66 (0, 0)) := by rw [← hw5, heap_setCell_same w3 g 0 _ _ _ H3.out]; rfl
  have hk5 : KeepAt S w w5 g b [] := ⟨by rw [← hw5]; exact C3.out.setCell ⟨g, 0, none⟩ (fun _ => SG.out) _, hg5, M3.out.keep (hoth b (by omega)), .inr (by rw [← hbb]; exact HB.out.size), by omega, SG.out, fun e he => by cases he⟩
  have l3 := L3.out
  have ha5 : w5.heap[w.heap.size]? = some (.cells A1 24 (0, 0)) := (hoth _ (by omega)).trans K13.out
  have ho5 : w5.heap[w.heap.size + 1]? = some (.cells #[.int .i64 k, .slice a n c] 34 (0, 0)) := (hoth _ (by omega)).trans K23.out
  have hs5 : w3.heap.size ≤ w5.heap.size := by rw [← hw5]; simp
  have hba3 : BAt w3 a l := HB0.out.keep (by rw [← hw3]; exact HB.out.alloc HB.out.size _)
  have hba5 : BAt w5 a l := hba3.same hs5 (fun ad hp ha => hoth _ (fun e => by
    obtain ⟨q, o, q1, q2, q3⟩ := hba3 hp
    rw [q1] at ha
    cases ha
    have q4 := q3 0 hp
    simp only at e
    rw [e, Lib.cell_of_heap H3.out] at q4
    match o, q4 with
    | 0, q4 => simp at q4
    | o + 1, q4 => simp at q4))
  have hba := fun u (hu : Below w5.heap.size w5 u) => hba5.keep hu
  clear c3 f3 hoth hg5 l3 hs5 hba3 hba5 hw5 hmm hbb gnb hw3
  have HK := Lib.hid hk5; have HB5 := Lib.hid (Below.refl w5.heap.size w5)
  have G5 := Lib.hid (fun u (hu : Below w5.heap.size w5 u) => (by
    rw [Lib.cell_of_heap ((hu.block g (lt_of_heap hk5.blk)).trans hk5.blk)]
    rfl : u.cell? ⟨g, 0, none⟩ = some (.map (some b))))
  have A5 := Lib.hid (fun u (hu : Below w5.heap.size w5 u) => (row_arrD ((hu.block w.heap.size (lt_of_heap ha5)).trans ha5)))
  have O5 := Lib.hid (fun u (hu : Below w5.heap.size w5 u) => (by
    have hq := (hu.block (w.heap.size + 1) (lt_of_heap ho5)).trans ho5
    intro j v hv
    rw [Nat.zero_add, Lib.cell_of_heap hq]
    match j, hv with
    | 0, hv => simpa using hv
    | 1, hv => simpa using hv
    | j + 2, hv => simp at hv : u.rangeAt (w.heap.size + 1) 0 [.int .i64 k, .slice a n c]))
  have LO := Lib.hid (show (Tryz.prog.info? 34).map (·.size) = some ([Value.int .i64 k, .slice a n c] : List Value).length from infoOb)
  have CT := Lib.hid (fun u (hu : Below w5.heap.size w5 u) => typedP_is k hk a n c l u hn.symm (hba u hu) hno (by omega))
  have PU := Lib.hid (fun u (hu : Below w5.heap.size w5 u) (tv : Value) => (by
    have q := (hk5.map.keep (hu.block b hk5.map.lt)).put (v := tv) idKeyed Tryz.underlying64 (celP_keys (fun e he => (hk5.ent e he).1)) (key_idL i hi) hnewE hroomE
    rw [hA1] at q
    exact q : ∃ w', (Instr.mapUpdate 64 (.map (some b)) (.agg A1) tv).run Tryz.prog u = .ok () w' ∧ MapAt w' b (celP [] ++ [(.agg A1, tv)]) ∧ u.grownBy w' (some b) ∧ w'.heap.size = u.heap.size))
  have KI := Lib.hid hi; have KK := Lib.hid hk; have KA := Lib.hid hA1
  obtain ⟨T, hT, hth⟩ := kind_ty hk
  have TH := Lib.hid hth
  clear hk5 ha5 ho5 hba hnewE hroomE hn hno hk hi hA1 hT hth
  refine wp_regionX (S := fun u => Below w5.heap.size w5 u) (fun j => j == 7) (by kernel_rfl) (Below.refl _ _).drew (fun hHeld => ?_)
  refine wpAnyX_take (i := 0) (v := ?sv0) rfl (by kernel_rfl) (by kernel_rfl) (by kernel_rfl) (by kernel_rfl) (fun _ _ _ h => h) (Or.inl ⟨by kernel_rfl, ?sy0⟩) hHeld ?_
  case sy0 => intro u hu; go_simp; try with_reducible rfl
  try simp only [Act.put, List.setIfInBounds_toArray, List.set_cons_zero, List.set_cons_succ]
  refine wpAnyX_take (i := 1) (v := ?sv1) rfl (by kernel_rfl) (by kernel_rfl) (by kernel_rfl) (by kernel_rfl) (fun _ _ _ h => h) (Or.inl ⟨by kernel_rfl, ?sy1⟩) hHeld ?_
  case sy1 => intro u hu; go_simp; try with_reducible rfl
  try simp only [Act.put, List.setIfInBounds_toArray, List.set_cons_zero, List.set_cons_succ]
  refine wpAnyX_take (i := 2) (v := ?sv2) rfl (by kernel_rfl) (by kernel_rfl) (by kernel_rfl) (by kernel_rfl) (fun _ _ _ h => h) (Or.inl ⟨by kernel_rfl, ?sy2⟩) hHeld ?_
  case sy2 => intro u hu; go_simp; try with_reducible rfl
  try simp only [Act.put, List.setIfInBounds_toArray, List.set_cons_zero, List.set_cons_succ]
  refine wpAnyX_take (i := 3) (v := .map (some b)) rfl (by kernel_rfl) (by kernel_rfl) (by kernel_rfl) (by kernel_rfl) (fun _ _ _ h => h) (Or.inl ⟨by kernel_rfl, ?sy3x⟩) hHeld ?_
  case sy3x => intro u hu; have q := G5.out u hu; go_simp
  try simp only [Act.put, List.setIfInBounds_toArray, List.set_cons_zero, List.set_cons_succ]
  refine wpAnyX_take (i := 4) rfl (by kernel_rfl) (by kernel_rfl) (by kernel_rfl) (by kernel_rfl) (fun _ _ _ h => h) (yieldsIf_load_mid (by kernel_rfl) 24 (.tmp 4) (by kernel_rfl) w.heap.size 0 (by kernel_rfl) A1.toList _ (fun u hu => A5.out u hu) Tryz.underlying24 rfl LA.out) hHeld ?_
  try simp only [Act.put, List.setIfInBounds_toArray, List.set_cons_zero, List.set_cons_succ]
  refine wpAnyX_take (i := 5) rfl (by kernel_rfl) (by kernel_rfl) (by kernel_rfl) (by kernel_rfl) (fun _ _ _ h => h) (yieldsIf_load_mid (by kernel_rfl) 34 (.tmp 5) (by kernel_rfl) (w.heap.size + 1) 0 (by kernel_rfl) [.int .i64 k, .slice a n c] _ (fun u hu => O5.out u hu) Tryz.underlying34 rfl LO.out) hHeld ?_
  try simp only [Act.put, List.setIfInBounds_toArray, List.set_cons_zero, List.set_cons_succ]
  refine wpAnyX_ready (rs := [6]) (by kernel_rfl) (by simp) ?_
  refine AllReadyX.cons rfl (fun K hK => ?_) AllReadyX.nil
  go_simp
  refine (CT.out _ hHeld).mono ?_
  rintro e u1 ⟨v1, rfl, hr1, hf1, hI⟩
  have hF := fun q hq => Nat.le_trans hHeld.size (hf1 q hq)
  have hH := hHeld.trans (hI.mono hHeld.size)
  clear hHeld hI hf1
  obtain ⟨a1, n1, c1, rfl⟩ := row_shape hr1
  have R1 := Lib.hid hr1
  have F1 := Lib.hid hF
  clear hr1 hF
  rw [TH.out]
  refine hK.out _ _ (.inl hH) (fun _ => ?_)
  have hHeld := hH
  clear hK K
  try simp only [Act.put, List.setIfInBounds_toArray, List.set_cons_zero, List.set_cons_succ]
  refine wpAnyX_ready (rs := [7]) (by kernel_rfl) (by simp) ?_
  refine AllReadyX.cons rfl (fun K hK => ?_) AllReadyX.nil
  obtain ⟨u2, hrun, hm2, hg2, hs2⟩ := PU.out _ hHeld (.iface T (.agg #[.slice a1 n1 c1]))
  have HM := Lib.hid hm2
  have HG := Lib.hid hg2
  have HU := Lib.hid hHeld
  clear hm2 hg2 hs2 hHeld
  go_simp
  refine hK.out _ _ (.inr rfl) (fun _ => ?_)
  clear hK K
  try simp only [Act.put, List.getElem_toArray, List.getElem_cons_succ, List.getElem_cons_zero, List.setIfInBounds_toArray, List.set_cons_zero, List.set_cons_succ]
  refine wpAnyX_done (by kernel_rfl) ?_ _
  have FIN := Lib.hid (HK.out.put (i := i) (k := k) HU.out KI.out KK.out R1.out F1.out (by rw [KA.out, TH.out]; exact HM.out) HG.out)
  clear HM HG HU R1 F1 HK
  go_wp2
  go_ret
  exact ⟨rfl, FIN.out⟩
end Go.Proofs.YtpelehhmdcjikaaGreatDoor

/-
  Layer 10, the program: Put, as the objects under their ids tell it.
-/
namespace Go.Proofs.YtpelehhmdcjikaaGreatDoor
set_option maxRecDepth 20000
open Go.RowKit
set_option linter.unusedVariables false
set_option linter.unusedSimpArgs false
/-- What a put leaves, answers, says, where the store is not full. -/
def putM (M : List Cel) (k : Int) (b : List UInt8) : List Cel × List UInt8 × Int :=
  if (printO k b).2 = 0 then
    match getM M (sumO k b) with
    | some c => (M, pickI (c.kind == k && c.body == b) (sumO k b), pickE (c.kind == k && c.body == b))
    | none => (M ++ [⟨sumO k b, k, b⟩], sumO k b, 0)
  else (M, idZ, (printO k b).2)
theorem sumO_len {k : Int} {b : List UInt8} (he : (printO k b).2 = 0) : (sumO k b).length = 20 := by
  unfold sumO
  rw [if_pos he]
  simp [sumL, digest_len]
theorem keep_new {S : Nat → Prop} {w : World} {g : Nat} {M : List Cel} (h : StoreP S w g M) (i : List UInt8) (hi : i.length = 20) (k : Int) (hk : kindO k) (v : Value) (l : List UInt8) (hv : Red w v l) (hl65 : l.length ≤ 65536) (hx : getM M i = none) (hM : M.length < 5000) :
    Calls Tryz.prog 26 #[.pointer (some ⟨g, 0, none⟩), .agg (arrD i), .agg #[.int .i64 k, v]] w fun e w' => e = .returned (.int .i64 0) ∧ StoreP (fun j => S j ∨ w.heap.size ≤ j) w' g (M ++ [⟨i, k, l⟩]) ∧ Chg S w w' := by
  have h2 := h
  obtain ⟨hg, E, mb, hE, hblk, _⟩ := h2
  have hc : w.cell? ⟨g, 0, none⟩ = some (.map mb) := by rw [Lib.cell_of_heap hblk]; rfl
  cases mb with
  | none => exact keep_nil h hc i hi k hk v l hv hl65 hx
  | some b => exact keep_some h hc i hi k hk v l hv hl65 hx hM
theorem StoreP.behind {S0 : Nat → Prop} {w u u' w' : World} {g : Nat} {M : List Cel} (hS0 : ∀ j, S0 j → j < w.heap.size) (h : StoreP (fun j => S0 j ∨ u.heap.size ≤ j) u' g M) (hc : Chg (fun j => w.heap.size ≤ j ∧ j < u.heap.size) u' w') :
    StoreP (fun j => S0 j ∨ u.heap.size ≤ j) w' g M :=
  h.keep ⟨hc.size, fun j hj hl => hc.block j hl (fun hn => by
    rcases hj with hj | hj
    · have := hS0 j hj; omega
    · omega)⟩
theorem PutP_is {S : Nat → Prop} {w : World} {g : Nat} {M : List Cel} (h : StoreP S w g M) (k : Int) (v : Value) (b : List UInt8) (hv : Red w v b) (tab : Tab w) (hM : M.length < 5000) :
    Calls Tryz.prog 9 #[.pointer (some ⟨g, 0, none⟩), .agg #[.int .i64 k, v]] w fun e w' => e = .returned (.tuple #[.agg (arrD (putM M k b).2.1), .int .i64 (putM M k b).2.2]) ∧
      StoreP (fun j => S j ∨ (w.heap.size ≤ j ∧ j < w'.heap.size)) w' g (putM M k b).1 ∧ Chg S w w' := by
  have h0 : StoreP (fun j => S j ∧ j < w.heap.size) w g M := h.mono (fun j hj hs => ⟨hs, hj⟩)
  have hS0 : ∀ j, (S j ∧ j < w.heap.size) → j < w.heap.size := fun j h => h.2
  by_cases he : (printO k b).2 = 0
  · have sl := sumO_len he
    obtain ⟨hk, hl65⟩ := printO_zero he
    cases hx : getM M (sumO k b) with
    | some x =>
      have e1 : putM M k b = (M, pickI (x.kind == k && x.body == b) (sumO k b), pickE (x.kind == k && x.body == b)) := by
        unfold putM
        rw [if_pos he, hx]
      rw [e1]
      obtain ⟨r, hr⟩ : ∃ r, (x.kind == k && x.body == b) = r := ⟨_, rfl⟩
      refine (PutP_any (g := g) k v b hv tab he (fun _ => False) (fun j h => h.elim) (pickE r) (fun u u' => Below u.heap.size u u') (fun u hu => (keep_there (h.below hu) (sumO k b) sl k v b (hv.below hu (Nat.le_refl _)) x hx).mono ?_)).mono ?_
      · rintro e u' ⟨rfl, hb⟩
        exact ⟨by rw [hr], hb, Chg.of_below hb⟩
      · rintro e w' ⟨rfl, u, u', hu, hR, hC, hC2⟩
        have hb : Below w.heap.size w w' := (hu.trans (hR.mono hu.size)).trans (hC2.below (Nat.le_trans hu.size hR.size) (fun j _ h => h.1))
        refine ⟨?_, (h.below hb).mono (fun j _ hj => .inl hj), Chg.of_below hb⟩
        rw [hr]
        cases r <;> rfl
    | none =>
      have e1 : putM M k b = (M ++ [⟨sumO k b, k, b⟩], sumO k b, 0) := by
        unfold putM
        rw [if_pos he, hx]
      rw [e1]
      refine (PutP_any (g := g) k v b hv tab he (fun j => S j ∧ j < w.heap.size) hS0 0 (fun u u' => StoreP (fun j => (S j ∧ j < w.heap.size) ∨ u.heap.size ≤ j) u' g (M ++ [⟨sumO k b, k, b⟩])) (fun u hu => keep_new (h0.below hu) (sumO k b) sl k hk v b (hv.below hu (Nat.le_refl _)) hl65 hx hM)).mono ?_
      rintro e w' ⟨rfl, u, u', hu, hR, hC, hC2⟩
      have hsu := hu.size
      refine ⟨rfl, (hR.behind hS0 hC2).mono (fun j hj hs => ?_), ?_⟩
      · rcases hs with hs | hs
        · exact .inl hs.1
        · exact .inr ⟨Nat.le_trans hsu hs, hj⟩
      · exact (((Chg.of_below (S := fun j => S j ∧ j < w.heap.size) hu).more hC (fun j _ h => h)).more hC2 (fun j hj h => by omega)).weak (fun j _ h => h.1)
  · have e1 : putM M k b = (M, idZ, (printO k b).2) := by
      unfold putM
      rw [if_neg he]
    rw [e1]
    refine (PutP_bad (g := g) k v b hv tab he).mono ?_
    rintro e w' ⟨rfl, hb⟩
    exact ⟨rfl, (h.below hb).mono (fun j _ hj => .inl hj), Chg.of_below hb⟩
end Go.Proofs.YtpelehhmdcjikaaGreatDoor

/-
  Layer 10, the program: ids held against each other (bytes.Compare; the literal of Ids), as slices.SortFunc asks it.
-/
namespace Go.Proofs.YtpelehhmdcjikaaGreatDoor
set_option maxRecDepth 20000
open Go.RowKit Go.Sort
set_option linter.unusedVariables false
set_option linter.unusedSimpArgs false
theorem run_bytesOf {P : Program} {w : World} {a : Option Addr} {l : List UInt8} {c : Nat} (h : BAt w a l) (hno : a = none → l.length = 0) : (Extern.Bytes.bytesOf (.slice a l.length c)).run P w = .ok ⟨l.toArray⟩ w := by
  cases a with
  | none =>
    have e := hno rfl
    obtain rfl : l = [] := List.eq_nil_of_length_eq_zero e
    rfl
  | some ad =>
    show (Extern.Bytes.loadBytes ad l.length .empty).run P w = _
    have h2 := Lib.run_loadBytesX (P := P) w (l.map fun c => (c.toNat : Int)) ad .empty (fun j x hj => by
      rw [List.getElem?_map] at hj
      cases hl : l[j]? with
      | none => rw [hl] at hj; cases hj
      | some y =>
        rw [hl] at hj
        cases hj
        exact h.cells ad rfl j _ (by simp [Lib.byteCells, hl]))
    rw [List.length_map] at h2
    rw [h2]
    simp [Lib.bytesOf, ByteArray.empty, ByteArray.emptyWithCapacity, Function.comp_def]
    rfl
theorem run_compare {P : Program} {w : World} {a1 a2 : Option Addr} {l1 l2 : List UInt8} {c1 c2 : Nat} (h1 : BAt w a1 l1) (h2 : BAt w a2 l2) (n1 : a1 = none → l1.length = 0) (n2 : a2 = none → l2.length = 0) :
    (Extern.BytealgCompare.compare #[.slice a1 l1.length c1, .slice a2 l2.length c2]).run P w = .ok (.int .i64 (Lib.compareBytes l1 l2)) w := by
  change Sem.run P (do pure (goInt (Extern.BytealgCompare.cmp (← Extern.Bytes.bytesOf (.slice a1 l1.length c1)) (← Extern.Bytes.bytesOf (.slice a2 l2.length c2))))) w = _
  simp only [Sem.run_bind, run_bytesOf h1 n1, run_bytesOf h2 n2, Sem.run_pure, Result.andThen]
  rw [Lib.cmp_eq]
  rfl
set_option maxHeartbeats 2000000 in
theorem bCompare_is (a1 a2 : Option Addr) (m1 m2 c1 c2 : Nat) (l1 l2 : List UInt8) (w : World) (h1 : BAt w a1 l1) (h2 : BAt w a2 l2) (e1 : m1 = l1.length) (e2 : m2 = l2.length) (n1 : a1 = none → m1 = 0) (n2 : a2 = none → m2 = 0) :
    Calls Tryz.prog 44 #[.slice a1 m1 c1, .slice a2 m2 c2] w fun e w' => e = .returned (.int .i64 (Lib.compareBytes l1 l2)) ∧ w = w' := by
  subst e1; subst e2
  have R := Lib.hid (run_compare (P := Tryz.prog) (c1 := c1) (c2 := c2) h1 h2 n1 n2)
  clear h1 h2 n1 n2
  obtain ⟨m1, hm1⟩ : ∃ m, l1.length = m := ⟨_, rfl⟩
  obtain ⟨m2, hm2⟩ : ∃ m, l2.length = m := ⟨_, rfl⟩
  obtain ⟨z, hz⟩ : ∃ z, Lib.compareBytes l1 l2 = z := ⟨_, rfl⟩
  rw [hm1, hm2, hz] at R
  rw [hm1, hm2, hz]
  go_enter Tryz.func44, Tryz.ntmps44
  go_wp2
  rw [run_callFunc_extern Tryz.func71 (by kernel_rfl) (by kernel_rfl) (by kernel_rfl) (e := Extern.BytealgCompare.compare) (by kernel_rfl), R.out]
  simp only [Result.andThen]
  rw [Oper.upon_value]
  go_wp2
  go_ret
  exact ⟨rfl, rfl⟩
theorem cmp_lt : ∀ a b : List UInt8, decide (Lib.compareBytes a b < 0) = decide (a < b)
  | [], [] => by simp [Lib.compareBytes]
  | [], _ :: _ => by simp [Lib.compareBytes]
  | _ :: _, [] => by simp [Lib.compareBytes]
  | a :: as2, b :: bs => by
    unfold Lib.compareBytes
    by_cases h : a < b
    · rw [if_pos h]
      simp [List.cons_lt_cons_iff, h]
    · rw [if_neg h]
      by_cases h2 : b < a
      · rw [if_pos h2]
        have hne : a ≠ b := fun e => h (by rw [e] at h2; exact absurd h2 (UInt8.lt_irrefl b))
        simp [List.cons_lt_cons_iff, h, hne]
      · rw [if_neg h2, cmp_lt as2 bs]
        have he : a = b := UInt8.le_antisymm (UInt8.not_lt.1 h2) (UInt8.not_lt.1 h)
        simp [List.cons_lt_cons_iff, h, he]
/-- One id held against another, as a number. -/
def cfX (x y : B20) : Int := Lib.compareBytes x.1 y.1
theorem ltX (x y : B20) : ltOf cfX x y = decide (x.1 < y.1) := cmp_lt x.1 y.1
theorem swoX : SWO (ltOf cfX) where
  irrefl x := by rw [ltX]; simp [List.lt_irrefl]
  trans x y z h1 h2 := by
    rw [ltX] at *
    simp only [decide_eq_true_eq] at *
    exact List.lt_trans h1 h2
  ntrans x y z h1 h2 := by
    rw [ltX] at *
    simp only [decide_eq_false_iff_not] at *
    exact fun h => h2 (List.lt_of_le_of_lt (show y.1 ≤ x.1 from h1) h)
end Go.Proofs.YtpelehhmdcjikaaGreatDoor

/-
  Layer 10, the program: the literal of Ids.
-/
namespace Go.Proofs.YtpelehhmdcjikaaGreatDoor
set_option maxRecDepth 20000
open Go.RowKit Go.Sort
set_option linter.unusedVariables false
set_option linter.unusedSimpArgs false
theorem bat_arr {u : World} {g : Nat} {A : Array Value} (i : List UInt8) (e : (cellsD i).toArray = A) (h : u.heap[g]? = some (.cells A 24 (0, 0))) : BAt u (some ⟨g, 0, none⟩) i := by
  subst e
  exact bat_of_range (lt_of_heap h) (row_cellsD h)
set_option maxHeartbeats 4000000 in
theorem cmpX_is (x y : B20) (w : World) :
    Calls Tryz.prog 43 #[.agg (cellsD x.1).toArray, .agg (cellsD y.1).toArray] w fun e w' => e = .returned (.int .i64 (cfX x y)) ∧ ∃ q os', w' = grow (w.drewN q) os' := by
  obtain ⟨A1, hA1⟩ : ∃ A, (cellsD x.1).toArray = A := ⟨_, rfl⟩
  obtain ⟨A2, hA2⟩ : ∃ A, (cellsD y.1).toArray = A := ⟨_, rfl⟩
  have b1 := (Below.refl w.heap.size w).alloc (Nat.le_refl _) (.cells A1 24)
  have b2 := b1.alloc b1.size (.cells A2 24)
  have h1 := ((Below.refl (w.alloc (.cells A1 24)).heap.size (w.alloc (.cells A1 24))).alloc (Nat.le_refl _) (.cells A2 24)).block w.heap.size (by simp)
  rw [heap_alloc_new w (.cells A1 24)] at h1
  have h2 := heap_alloc_new (w.alloc (.cells A1 24)) (.cells A2 24)
  have hs1 : (w.alloc (.cells A1 24)).heap.size = w.heap.size + 1 := by simp
  rw [hs1] at h2
  have hs2 : ((w.alloc (.cells A1 24)).alloc (.cells A2 24)).heap.size = w.heap.size + 2 := by simp
  have G := Lib.hid (show (w.alloc (.cells A1 24)).alloc (.cells A2 24) = grow w (#[.cells A1 24] ++ #[.cells A2 24]) by rw [alloc_eq_grow, alloc_eq_grow, grow_grow])
  have B1 := bat_arr x.1 hA1 h1
  have B2 := bat_arr y.1 hA2 h2
  have C := Lib.hid (fun (q : Nat) => bCompare_is (some ⟨w.heap.size, 0, none⟩) (some ⟨w.heap.size + 1, 0, none⟩) 20 20 20 20 x.1 y.1 (((w.alloc (.cells A1 24)).alloc (.cells A2 24)).drewN q) B1 B2 x.2.symm y.2.symm (fun e => by cases e) (fun e => by cases e))
  have sl1 := fun u => slice20_D u w.heap.size 0
  have sl2 := fun u => slice20_D u (w.heap.size + 1) 0
  rw [hA1, hA2]
  clear b1 b2 h1 h2 hs1 B1 B2
  show Calls _ _ _ _ fun e w' => e = .returned (.int .i64 (Lib.compareBytes x.1 y.1)) ∧ _
  generalize Lib.compareBytes x.1 y.1 = z at C ⊢
  go_enter Tryz.func43, Tryz.ntmps43
  go_wp2_with fail
  obtain ⟨W2, hW2⟩ : ∃ W2, (w.alloc (.cells A1 24)).alloc (.cells A2 24) = W2 := ⟨_, rfl⟩
  rw [hW2] at C G ⊢
  clear hW2 hs2
  go_quiet ((go_at_call 44; exact Calls.quiet_of_same ((C.out _).mono fun _ _ h => ⟨h.1, h.2.symm⟩)))
  go_wp2
  go_ret
  exact ⟨rfl, nq, _, by rw [G.out]; rfl⟩
theorem cmpLaysX (blk off size : Nat) (w : World) : Go.Proofs.CmpLays Tryz.prog 43 #[] (fun x : B20 => cellsD x.1) 20 cfX blk off size w :=
  fun _ _ _ _ x y => cmpX_is x y _
end Go.Proofs.YtpelehhmdcjikaaGreatDoor

/-
  Inside a fence: whole blocks stored and read; what reads as an id's key is an id.
-/
namespace Go.Proofs.YtpelehhmdcjikaaGreatDoor
set_option maxRecDepth 20000
open Go.RowKit Go.Maps
set_option linter.unusedVariables false
set_option linter.unusedSimpArgs false
theorem wpListIn_store_all {F : Fence} {n : Nat} {ops : Array Oper} {rest : List Oper} {o : Oper} {a : Act} {w : World} {Q : Exit → Act → World → Prop} (hgd : o.guard = none) (ty : TypeId) (x y : Operand) (ho : o.op = .store ty x y) (g : Nat) (cells : Array Value)
    (hx : a.eval x = .pointer (some ⟨g, 0, none⟩)) (hy : a.eval y = .agg cells) (T : TypeId) (cur : Array Value) (hg : w.heap[g]? = some (.cells cur T (0, 0))) (hi : (Tryz.prog.info? ty).map (·.size) = some cells.size) (hfit : cells.size = cur.size)
    (h1 : cells.all (·.oneCell') = true)
    (h : ∀ w', w'.heap[g]? = some (.cells cells T (0, 0)) → w.grownBy w' (some g) → w'.heap.size = w.heap.size → wpListIn F n Tryz.prog ops Q rest (a.put o.dst undef) w') :
    wpListIn F n Tryz.prog ops Q (o :: rest) a w := by
  refine wpListIn_plain hgd fun K hK => ?_
  obtain ⟨ie, hie, hsz⟩ : ∃ ie, Tryz.prog.info? ty = some ie ∧ ie.size = cells.size := by
    cases e : Tryz.prog.info? ty with
    | none => rw [e] at hi; cases hi
    | some ie => rw [e] at hi; exact ⟨ie, rfl, Option.some.inj hi⟩
  have hst := run_storeCells_at Tryz.prog g 0 T cells.toList 0 cur w hg (by rw [Array.length_toList]; omega) (fun v hv => (Array.all_eq_true_iff_forall_mem.1 h1) v (by simpa using hv))
  have hrun : (storeVar ty ⟨g, 0, none⟩ (.agg cells)).run Tryz.prog w = .ok () (w.setRow g cells) := by
    have e : (cur.toList.take 0 ++ cells.toList ++ cur.toList.drop (0 + cells.size)).toArray = cells := by
      rw [List.take_zero, List.nil_append, Nat.zero_add, hfit, List.drop_of_length_le (by simp), List.append_nil]
    simp only [Nat.add_zero, Array.length_toList] at hst
    rw [e] at hst
    simp [storeVar, sizeOf, typeInfo, hie, hsz, Value.cells, hst]
  unfold Oper.wpIn
  refine ⟨by simp [Oper.about, ho], ?_⟩
  rw [Oper.semAt_plain F _ _ (by rw [ho]; intro c hc; cases hc)]
  unfold execOp
  simp only [ho, hx, hy, Instr.storeAt, Instr.sureAddr, Sem.run_bind, Sem.run_pure, Result.andThen_ok]
  rw [hrun]
  have b := below_setRow (B := g) (Below.refl g w) (Nat.le_refl _) cells
  refine hK _ _ (h _ (setRow_heap w g cur _ T (0, 0) hg) ⟨b.os, b.tape, b.output, b.size, fun k _ hk => ?_⟩ (by simp [World.setRow]))
  have hkg : ¬ g = k := fun e => hk (by rw [e])
  simp [World.setRow, Array.getElem?_modify, hkg]
theorem wpListIn_load_all {F : Fence} {n : Nat} {ops : Array Oper} {rest : List Oper} {o : Oper} {a : Act} {w : World} {Q : Exit → Act → World → Prop} (hgd : o.guard = none) (ty : TypeId) (x : Operand) (ho : o.op = .load ty x)
    (g : Nat) (A : Array Value) (T : TypeId) (fr : Nat × Nat) (hx : a.eval x = .pointer (some ⟨g, 0, none⟩)) (hg : w.heap[g]? = some (.cells A T fr)) (d : TypeDesc)
    (hu : Tryz.prog.underlying ty = some d) (hd : d.isRow = true) (hi : (Tryz.prog.info? ty).map (·.size) = some A.size)
    (h : wpListIn F n Tryz.prog ops Q rest (a.put o.dst (.agg A)) w) : wpListIn F n Tryz.prog ops Q (o :: rest) a w := by
  refine wpListIn_plain hgd fun K hK => ?_
  unfold Oper.wpIn
  refine ⟨by simp [Oper.about, ho], ?_⟩
  rw [Oper.semAt_plain F _ _ (by rw [ho]; intro c hc; cases hc)]
  unfold execOp
  simp only [ho, hx, Instr.loadAt, Instr.sureAddr, Sem.run_bind, Sem.run_pure, Result.andThen_ok]
  rw [run_loadVar_row w g T ty A fr d hg hu (by cases d <;> first | rfl | cases hd) hi]
  exact hK _ _ h
theorem mapM_some {α β : Type} {f : α → Option β} : ∀ {l : List α} {r : List β}, l.mapM f = some r → ∀ x ∈ l, ∃ y, f x = some y
  | [], _, _, x, hx => by cases hx
  | a :: l, r, h, x, hx => by
    rw [List.mapM_cons] at h
    cases ha : f a with
    | none => rw [ha] at h; cases h
    | some y =>
      cases hl : l.mapM f with
      | none => rw [ha, hl] at h; cases h
      | some ys =>
        rcases List.mem_cons.1 hx with rfl | hx
        · exact ⟨y, ha⟩
        · exact mapM_some hl x hx
/-- What reads as a key of the type of ids is an id. -/
theorem key_inv {v : Value} {l : Lit} (h : keyOf Tryz.prog 24 v = some l) : ∃ x : B20, v = encX x := by
  have hu : Tryz.prog.underlying 24 = some (.array 20 5) := Tryz.underlying24
  have hu8 : Tryz.prog.underlying 5 = some (.int .u8) := Tryz.underlying5
  have c1 : Tryz.prog.cellsOf 24 = 20 := by kernel_rfl
  have c2 : Tryz.prog.cellsOf 5 = 1 := by kernel_rfl
  unfold keyOf at h
  rw [hu] at h
  simp only at h
  split at h
  · rename_i hf
    have hf2 := (Bool.and_eq_true_iff.1 hf).2
    cases v with
    | agg cs =>
      obtain ⟨m, hm⟩ : ∃ m, Tryz.prog.types.size = m + 1 := Nat.exists_eq_succ_of_ne_zero (Nat.ne_of_gt (Nat.lt_of_le_of_lt (Nat.zero_le _) rowX))
      rw [hm] at h
      cases hk : Tryz.prog.keyLits (m + 1 + 1) 24 (Value.agg cs).cells.toList with
      | none => rw [hk] at h; cases h
      | some L =>
        clear h
        have hc : (Value.agg cs).cells.toList = cs.toList := rfl
        rw [hc, Program.keyLits.eq_def] at hk
        simp only [hu, c1, c2] at hk
        split at hk
        · rename_i hl
          cases hmm : (List.range 20).mapM (fun i => Tryz.prog.keyLits (m + 1) 5 ((cs.toList.drop (i * 1)).take 1)) with
          | none => rw [hmm] at hk; cases hk
          | some r =>
            have el : ∀ k (h : k < cs.toList.length), ∃ b : UInt8, cs.toList[k] = .int .u8 (b.toNat : Int) := by
              intro k hkl
              obtain ⟨y, hy⟩ := mapM_some hmm k (List.mem_range.2 (by omega))
              have e1 : (cs.toList.drop (k * 1)).take 1 = [cs.toList[k]] := by
                rw [Nat.mul_one, List.drop_eq_getElem_cons hkl, List.take_succ_cons, List.take_zero]
              rw [e1, Program.keyLits.eq_def] at hy
              simp only [hu8] at hy
              cases hv : cs.toList[k] with
              | int q z =>
                rw [hv] at hy
                simp only at hy
                split at hy
                · rename_i hq
                  obtain ⟨rfl, hw⟩ := hq
                  have e1 : IntKind.u8.min = 0 := rfl
                  have e2 : IntKind.u8.max = 255 := rfl
                  have hb : 0 ≤ z ∧ z ≤ 255 := by simpa [Lit.wf, e1, e2] using hw
                  refine ⟨UInt8.ofNat z.toNat, ?_⟩
                  rw [UInt8.toNat_ofNat']
                  congr 1
                  omega
                · cases hy
              | _ => rw [hv] at hy; simp at hy
            have hall : ∃ i : List UInt8, cs.toList = cellsD i := by
              refine ⟨cs.toList.map (fun v => match v with | .int _ z => UInt8.ofNat z.toNat | _ => 0), ?_⟩
              unfold cellsD
              apply List.ext_getElem
              · simp [Lib.byteCells]
              · intro k h1 h2
                obtain ⟨b, hb⟩ := el k h1
                simp only [Lib.byteCells, List.getElem_map, hb]
                congr 1
                have := b.toNat_lt
                rw [UInt8.toNat_ofNat']
                omega
            obtain ⟨i, hi⟩ := hall
            have h20 : i.length = 20 := by
              have := congrArg List.length hi
              rw [hl] at this
              simpa [cellsD, Lib.byteCells] using this.symm
            refine ⟨⟨i, h20⟩, ?_⟩
            unfold encX arrD
            congr 1
            rw [← hi]
        · cases hk
    | _ => simp [Value.formed, hu] at hf2
  · cases h
end Go.Proofs.YtpelehhmdcjikaaGreatDoor

/-
  slices.AppendSeq over ids, onto nothing: what the iterator gives, in that order, in a row of its own.
-/
namespace Go.Proofs.YtpelehhmdcjikaaGreatDoor
open Go.RowKit Go.Maps
attribute [local go_sem] Oper.semAt_some
set_option linter.unusedVariables false
set_option linter.unusedSimpArgs false
theorem wpListIn_build_idD {F : Fence} {n : Nat} {ops : Array Oper} {rest : List Oper} {o : Oper} {a : Act} {w : World} {Q : Exit → Act → World → Prop} (hgd : o.guard = none) (x : Operand) (ho : o.op = .buildSlice 43 1 #[(0, x)])
    (A : Array Value) (hA : A.size = 20) (hx : a.eval x = .agg A)
    (h : wpListIn F n Tryz.prog ops Q rest (a.put o.dst (.slice (some ⟨w.heap.size, 0, none⟩) 1 1)) (w.alloc (.cells A 24))) : wpListIn F n Tryz.prog ops Q (o :: rest) a w := by
  obtain ⟨ie, hie, hz, hs, _⟩ := infoD_all
  refine wpListIn_plain hgd fun K hK => ?_
  have e : (Array.map (fun (p : Nat × Operand) => (p.1, a.eval p.2)) #[(0, x)]) = #[(0, .agg A)] := by simp [hx]
  have hf : Instr.fill (fun i => some (i * ie.size, ie.size)) ((Array.range (1 * ie.size)).map ((Value.agg (arrD idZ)).cells[· % (Value.agg (arrD idZ)).cells.size]!)) (#[(0, Value.agg A)] : Array (Nat × Value)).toList = some A := by
    rw [hs]
    exact fillD_one A _ hA (by simp)
  unfold Oper.wpIn
  refine ⟨by simp [Oper.about, ho], ?_⟩
  rw [Oper.semAt_plain F _ _ (by rw [ho]; intro c hc; cases hc)]
  unfold execOp
  simp only [ho, Sem.run_bind]
  rw [show (fun (p : Nat × Operand) => match p with | (i, x) => (i, a.eval x)) = (fun (p : Nat × Operand) => (p.1, a.eval p.2)) from rfl, e, run_buildSlice w 43 24 1 _ A ie (.agg (arrD idZ)) Tryz.underlying43 hie hz (by rw [hs]; decide) (by rw [hs]; decide) hf]
  simp only [Result.andThen_ok]
  exact hK _ _ h
/-- The ids' cells, one behind the other. -/
def flatX (l : List B20) : List Value := l.flatMap (fun x => cellsD x.1)
theorem flatX_len (l : List B20) : (flatX l).length = l.length * 20 := by
  have := flatD_len (l.map Subtype.val) (fun i hi => by obtain ⟨x, _, rfl⟩ := List.mem_map.1 hi; exact x.2)
  rw [List.flatMap_map, List.length_map] at this
  exact this
/-- The frame of slices.AppendSeq while a round goes on: the loop's variable in a block of its own. -/
def frX (n0 Bx : Nat) (fv xv : Value) : Act := { tmps := #[.slice none 0 0, fv, .pointer (some ⟨n0, 0, none⟩), undef, .slice none 0 0, .pointer (some ⟨Bx, 0, none⟩), fv, xv, undef, undef, undef, undef, undef], defers := [] }
/-- Between two rounds: a row of its own holds what has come. -/
def IX (w : World) (pre : List B20) (W : World) : Prop :=
  (∃ v, Boxed W w.heap.size 43 v ∧ W.ownsRow w.heap.size 24 20 v pre.length (flatX pre) ∧ (v = .slice none 0 0 ↔ pre = [])) ∧ Below w.heap.size w W
theorem IX_own (w : World) (B : Nat) (hB : w.heap.size ≤ B) : OwnFrom B (IX w) := fun s W W' row h hg hr =>
  ⟨(holdsRow_own w.heap.size w.heap.size 43 24 20 (fun pre : List B20 => pre.length) (fun pre => flatX pre) (fun pre v => v = .slice none 0 0 ↔ pre = [])).from B s W W' row h.1 hg hr,
   ownFrom_below (β := List B20) (Nat.le_refl _) hB s W W' row h.2 hg hr⟩
/-- In a round: the loop's variable lies in a block of its own. -/
def AX (n0 : Nat) (fv : Value) (x : B20) (a' : Act) (W : World) : Prop := ∃ Bx, n0 < Bx ∧ W.heap[Bx]? = some (.cells (arrD x.1) 24 (0, 0)) ∧ a' = frX n0 Bx fv (encX x)
theorem AX_own (n0 B : Nat) (fv : Value) (x : B20) (a' : Act) : OwnFrom B (fun (_ : Unit) W => AX n0 fv x a' W) := by
  intro s W W' row ⟨Bx, h1, h2, h3⟩ hg hr
  refine ⟨Bx, h1, (hg.block Bx (Array.getElem?_eq_some_iff.1 h2).1 (fun e => ?_)).trans h2, h3⟩
  obtain ⟨_, o, ho, hc⟩ := hr Bx e.symm
  rw [h2] at ho
  cases ho
  cases hc
set_option maxRecDepth 100000 in
set_option maxHeartbeats 4000000 in
theorem appendSeqX_in (F : Fence) (n : Nat) (h11 : F.fn 94) (hro : F.round = none) (hn : 2 ≤ n) (g : Nat) (lb : Array Value) (hFg : F.fn g) (eg : ∀ args w, (callFunc g args).run Tryz.prog w = .ok (.enter g args) w)
    (S Sp : List B20 → Prop) (N : Nat) (hN : N ≤ 1000000) (w : World) (hseq : SeqStops F (n - 1) Tryz.prog g lb encX S Sp N w) (hS : ∀ l, S l → l.length ≤ N) :
    CallsIn F n Tryz.prog 94 #[.slice none 0 0, .func (.func g) #[] lb] w fun e w' => ∃ (v : Value) (ss : List B20), e = .returned v ∧ S ss ∧ w'.ownsRow w.heap.size 24 20 v ss.length (flatX ss) ∧ (v = .slice none 0 0 ↔ ss = []) ∧ Below w.heap.size w w' := by
  have h1 : 1 ≤ n := by omega
  obtain ⟨z, hz0, hzs, hzv, hzb, hz1⟩ := zId_any
  obtain ⟨ie, hie, hiz, his, hib⟩ := infoD_all
  have IZ := Lib.hid (show ∀ x : B20, (Tryz.prog.info? 24).map (·.size) = some (arrD x.1).size from fun x => by rw [arrD_size x.1 x.2]; exact infoD_n)
  have ZS := Lib.hid hzs
  clear hz0 hzb hz1 hzs
  refine callsIn_of_wp_marks Tryz.func94 rfl h11 ?_ hro
  simp only [Tryz.ntmps94, List.size_toArray, List.length_cons, List.length_nil, Nat.reduceAdd, Nat.reduceSub, Array.replicate_succ, Array.replicate_zero, List.push_toArray, List.append_toArray, List.nil_append, List.cons_append]
  gi_wp2
  have bO := Boxed.new w 43 (.slice none 0 0)
  have hB0 : Below w.heap.size w (w.alloc (.cells #[.slice none 0 0] 43)) := (Below.refl _ w).alloc (Nat.le_refl _) _
  refine wpIn_rangeFunc_ownH hro h1 (gf := g) (lb := lb) rfl hFg eg
    (encs := fun x => #[encX x]) (Kp := KeepsWalks) (S := S) (Sp := Sp) (N := N) (w0 := w.alloc (.cells #[.slice none 0 0] 43)) (seqStopsA_iff.1 (seqStops_iff.1 (hseq.later hB0))) walksK_t walksK_b (Below.refl _ _) (fun _ => rfl)
    (IX w) (fun _ _ _ => False) (IX_own w _ hB0.size) (fun _ _ _ _ _ hs _ _ => hs) ⟨⟨_, bO, World.ownsRow_nil _ _ _ _, by simp⟩, hB0⟩
    (AX w.heap.size (.func (.func g) #[] lb)) (fun x a' => AX_own _ _ _ x a') ?assign ?body ?done ?stop
  case assign =>
    intro l pre x W K hI hK
    obtain ⟨⟨v, hv, hrow, hnil⟩, hB⟩ := hI
    have hI : IX w pre W := ⟨⟨v, hv, hrow, hnil⟩, hB⟩
    have hlt := hv.lt
    clear hrow hnil hv
    obtain ⟨A, hA⟩ : ∃ A, arrD x.1 = A := ⟨_, rfl⟩
    have hAx : encX x = .agg A := by unfold encX; rw [hA]
    have IA := Lib.hid (hA ▸ IZ.out x : (Tryz.prog.info? 24).map (·.size) = some A.size)
    have SA := Lib.hid (show A.size = z.size from by rw [← hA, arrD_size x.1 x.2, ZS.out])
    have OA := Lib.hid (show A.all (·.oneCell') = true from by rw [← hA]; exact arrD_one _)
    have hw3 := heap_alloc_new W (.cells z 24)
    rw [hAx]
    gi_wp2_with (first
      | (with_reducible refine wpListIn_store_all rfl 24 (.tmp 5) (.tmp 7) rfl W.heap.size A rfl rfl 24 z hw3 IA.out SA.out OA.out ?_; intro w4 r4 g4 s4)
      | fail)
    have hg4 : W.grownBy w4 none := (World.grownBy_alloc W _ none).andThen g4 (fun j e => .inl (Nat.le_of_eq (Option.some.inj e)))
    refine hK _ w4 (KeepsFrom.of_grownBy hg4 (fun j e => by cases e)) (KeepsWalks.of_grownBy hg4 (fun j o e => by cases e)) (IX_own w _ (Nat.le_refl _) pre W w4 none hI hg4 (fun r e => by cases e)) ⟨W.heap.size, hlt, by rw [hA]; exact r4, by rw [hAx]; rfl⟩
  case body =>
    rintro l pre x a' W hl ⟨r, hr⟩ ⟨⟨v, hv, hrow, hnil⟩, hB⟩ ⟨Bx, hBx, bX, rfl⟩ hlt
    have hc := hv.cell
    obtain ⟨A, hA⟩ : ∃ A, arrD x.1 = A := ⟨_, rfl⟩
    have IA := Lib.hid (hA ▸ IZ.out x : (Tryz.prog.info? 24).map (·.size) = some A.size)
    have SA := Lib.hid (show A.size = 20 from by rw [← hA, arrD_size x.1 x.2])
    rw [hA] at bX
    have hrng := Lib.hid (fun (u : World) (hu : u.heap[W.heap.size]? = some (.cells A 24 (0, 0))) (j : Nat) (q : Value) (hq : (cellsD x.1)[j]? = some q) => (by
      have := row_cellsD (i := x.1) (by rw [← hA] at hu; exact hu) j q hq
      rw [show (⟨W.heap.size, 0, none⟩ : Addr).add j = ⟨W.heap.size, 0 + j, none⟩ by unfold Addr.add; split <;> simp_all]
      exact this : u.cell? ((⟨W.heap.size, 0, none⟩ : Addr).add j) = some q))
    have hnew := heap_alloc_new W (.cells A 24)
    unfold frX
    gi_wp2_with (first
      | (with_reducible refine wpListIn_load_all rfl 24 (.tmp 5) rfl Bx A 24 (0, 0) rfl bX _ Tryz.underlying24 rfl IA.out ?_)
      | (with_reducible refine wpListIn_build_idD rfl (.tmp 9) rfl A SA.out rfl ?_)
      | (gi_at_builtin; refine wpListIn_append_own _ rfl _ _ 43 rfl w.heap.size 24 ie (.agg (arrD idZ)) 20 20 Tryz.underlying43 hie hiz his hib (arrD_size _ (by simp [idZ])) (by decide) _ _ _ rfl (hrow.alloc _) ⟨W.heap.size, 0, none⟩ 1 1 (cellsD x.1) rfl (by rw [cellsD_len _ x.2]) (hrng.out _ hnew) (fun u hu => (Array.all_eq_true_iff_forall_mem.1 (cellsD_one x.1)) u (by simpa using hu)) (by unfold maxLen; omega) (by omega) (by have := hB.size; simp; omega) ?_; intro v' w1 hown' hgrow _; obtain ⟨g', cap', rfl⟩ := ownsRow_succ hown'; obtain ⟨hv1, hv2, hr2, hk2, hb2⟩ := hv.appended (by decide) hrow hB.size (Nat.le_refl _) hown' hgrow; have hc1 := hv1.cell; have hf1 := hv1.frozen)
      | fail)
    have hkw : KeepsWalks W _ := ⟨hk2.size, fun k o hk hw => hk2.same k o hk (by cases o <;> first | rfl | cases hw)⟩
    exact ⟨hk2.from _, hkw, ⟨⟨_, hv2, by rw [flatX, List.flatMap_append]; simpa [flatX] using hr2, by simp⟩, hB.trans hb2⟩⟩
  case done =>
    rintro D ys W hD hSy ⟨⟨v, hv, hrow, hnil⟩, hB⟩ hK
    have hc := hv.cell
    gi_wp2
    refine ⟨by simp, .inl ⟨_, _, rfl, run_takeDeferred hK, ?_⟩⟩
    exact ⟨_, results_tmp rfl _ _ _, v, ys, rfl, hSy, ownsRow_putObj hrow _ hK rfl, hnil, hB.trans (belowK_b (w := w) (Nat.le_refl _) W D _ _ (by simp at hD; omega) hK rfl rfl)⟩
  case stop =>
    rintro D c pre W _ _ h _
    exact h.elim
end Go.Proofs.YtpelehhmdcjikaaGreatDoor
