/-
  Texts that belong together, one behind the other.
-/
import Derived.Test.YtnbcbiglkmdepaaGreatDoorFu21
import Derived.Shelf.SlMaps.Clone
import Derived.Shelf.SlSortCmp.WholeK
import Derived.TacticsInMore
set_option maxHeartbeats 64000000
set_option linter.unusedVariables false
set_option linter.unusedSimpArgs false
open Go.Lib renaming hid → hyd
open List renaming getElem_toArray → lgA, getElem_cons_succ → lgS, getElem_cons_zero → lgZ
namespace Go.Proofs.YtnbcbiglkmdepaaGreatDoor
set_option maxRecDepth 100000
open Go.RowKit Go.Maps
theorem keep_some {S C : Nat → Prop} {w : World} {g b : Nat} {M : List Cel} (h : StoreP S w g M) (hCb : C b) (hbc : w.cell? ⟨g, 0, none⟩ = some (.map (some b))) (i : List UInt8) (hi : i.length = 20) (k : Int) (hk : kindO k) (v : Value) (l : List UInt8) (hv : Red w v l) (hl65 : l.length ≤ 65536) (hx : getM M i = none) (hM : M.length < 5000) :
  Calls Tryz.prog 19 #[.pointer (some ⟨g, 0, none⟩), .agg (arrD i), .agg #[.int .i64 k, v]] w fun e w' => e = .returned (.int .i64 0) ∧ StoreP (fun j => S j ∨ w.heap.size ≤ j) w' g (M ++ [⟨i, k, l⟩]) ∧ Chg C w w' := by
 obtain ⟨a, c, rfl, hb, hno, hc, hmx⟩ := hv; obtain ⟨n, hn⟩ : ∃ n, l.length = n := ⟨_, rfl⟩; obtain ⟨A1, hA1⟩ : ∃ A, arrD i = A := ⟨_, rfl⟩
 have sA : A1.size = 20 := by rw [← hA1]; exact arrD_size i hi
 rw [hn] at hno hc ⊢; have b1 := (Below.refl w.heap.size w).alloc (Nat.le_refl _) (.cells A1 24); have b2 := b1.alloc b1.size (.cells #[.int .i64 k, .slice a n c] 34)
 have hs1 : (w.alloc (.cells A1 24)).heap.size = w.heap.size + 1 := by simp
 have h02 := heap_alloc_new (w.alloc (.cells A1 24)) (.cells #[.int .i64 k, .slice a n c] 34); have h01 := (((Below.refl (w.alloc (.cells A1 24)).heap.size (w.alloc (.cells A1 24))).alloc (Nat.le_refl _) (.cells #[.int .i64 k, .slice a n c] 34)).block w.heap.size (by simp)).trans (heap_alloc_new w (.cells A1 24)); rw [hs1] at h02; have B1 := hyd b2; obtain ⟨w1, hw1⟩ : ∃ w1, (w.alloc (.cells A1 24)).alloc (.cells #[.int .i64 k, .slice a n c] 34) = w1 := ⟨_, rfl⟩; rw [hw1] at B1 h01 h02; have H1 := hyd h01; have H2 := hyd h02; have LA := hyd (show (Tryz.prog.info? 24).map (·.size) = some A1.toList.length from by rw [Array.length_toList, sA]; exact infoD_n); obtain ⟨mb, hl⟩ := h.look_none hi hx; obtain ⟨hg, E, mb2, hE, hblk, hent, hnone, hmap⟩ := h
 have hc2 : w.cell? ⟨g, 0, none⟩ = some (.map mb2) := by rw [Lib.cell_of_heap hblk]; rfl
 obtain rfl : mb2 = some b := by rw [hbc] at hc2; exact (Value.map.inj (Option.some.inj hc2)).symm
 obtain rfl : mb = some b := by have q := (hl w (Below.refl _ _)).1; rw [hbc] at q; exact (Value.map.inj (Option.some.inj q)).symm
 obtain ⟨hSb, hbg, hMap⟩ := hmap b rfl
 have hEl : (celP E).length = M.length := by rw [← hE]; simp [celP]
 rw [hA1] at hl ⊢; have HL := hyd (fun u (hu : Below w1.heap.size w1 u) => hl u (B1.out.trans (hu.mono B1.out.size))); have RA := hyd (fun u (hu : Below w1.heap.size w1 u) => (row_arrD ((hu.block w.heap.size (lt_of_heap H1.out)).trans H1.out)))
 have hk0 : ∀ w5, Below w.heap.size w w5 → KeepAt S C w w5 g b E := fun w5 h5 =>
  ⟨Chg.of_below h5, (h5.block g (lt_of_heap hblk)).trans hblk, hMap.keep (h5.block b hMap.lt), .inl hSb, .inl hCb, hbg, hg, fun e he => ⟨(hent e he).1, (hent e he).2.1, ((hent e he).2.2.keep (Stays.of h5)).mono (fun j _ hj => ⟨hj.1, hj.2.1, fun e => hj.2.2 (by rw [e])⟩)⟩⟩
 have hnewE : ∀ m ∈ celP E, m.1 ≠ .agg (arrD i) := fun m hm he => by
  obtain ⟨e, hee, rfl⟩ := List.mem_map.1 hm; exact getM_none hx e.c (by rw [← hE]; exact List.mem_map.2 ⟨e, hee, rfl⟩) (arrD_inj (Value.agg.inj he))
 have hroomE : (celP E).length < maxLen := by rw [hEl]; unfold maxLen; omega
 have hlen := fun u (hu : Below w.heap.size w u) ty => (by
  have q := (hMap.keep (hu.block b hMap.lt)).length Tryz.underlying46 ty; rw [hEl] at q
  exact q : (Builtin.len_ #[46] ty #[.map (some b)]).run Tryz.prog u = .ok (goInt M.length) u)
 obtain ⟨N, hN⟩ : ∃ N, M.length = N := ⟨_, rfl⟩; rw [hN] at hlen hM
 have g1 : (N : Int) < 5000 := by omega
 have hq := fun w => run_eql_map_nil_sl (P := Tryz.prog) w 46 _ _ (some b) Tryz.underlying46
 have HLN := hyd hlen; have HK0 := hyd hk0; have HE := hyd hE; have HB0 := hyd hb; clear hCb hl hlen hk0 hblk hent hnone hmap hMap hSb hbg hg hc2 hE hEl hbc hc hmx hx hb b1 b2 hs1 h01 h02 sA
 go_enter Tryz.func19, Tryz.ntmps19
 go_wp2_with fail
 refine rgB w1 (fun hd => ?_); refine tkW 0 rfl hd ?_; refine tkW 1 rfl hd ?_; refine tkW 2 rfl hd ?_; refine tkV 3 rfl (.map (some b)) ?py3x hd ?_
 case py3x => intro u hu; have q := (HL.out u hu).1; go_simp
 refine tkH 4 rfl (yieldsIf_load_mid (by kernel_rfl) 24 (.tmp 4) (by kernel_rfl) w.heap.size 0 (by kernel_rfl) A1.toList _ (fun u hu => RA.out u hu) Tryz.underlying24 rfl LA.out) hd ?_; refine tkV 5 rfl (.tuple #[.nilIface, .bool false]) ?py5x hd ?_
 case py5x => intro u hu; have q := (HL.out u hu).2; go_simp
 refine tkW 6 rfl hd ?_; refine tkW 7 rfl hd ?_; refine tkW 8 rfl hd ?_; refine tkW 9 rfl hd ?_; refine tkW 10 rfl hd ?_
 try simp only [Act.put, lgA, lgS, lgZ, lsA, lsZ, lsS]
 refine wpAnyH_done (by kernel_rfl) ?_ _; obtain ⟨w2, hw2⟩ : ∃ w2, w1.drew = w2 := ⟨_, rfl⟩; rw [hw2] at hd ⊢; have HB := hyd (B1.out.trans (hd.mono B1.out.size)); have K1 := hyd ((hd.block w.heap.size (lt_of_heap H1.out)).trans H1.out); have K2 := hyd ((hd.block (w.heap.size + 1) (lt_of_heap H2.out)).trans H2.out); have pg := (HL.out _ hd).1; have hl2 := HLN.out w2 HB.out; clear hd hw2
 go_wp2_with fail
 have hk5 := HK0.out w2 HB.out; have ha5 := K1.out; have ho5 := K2.out
 have hba := fun u (hu : Below w2.heap.size w2 u) => HB0.out.keep (HB.out.trans (hu.mono HB.out.size))
 clear pg hl2; have HK := hyd hk5; have HB5 := hyd (Below.refl w2.heap.size w2)
 have G5 := hyd (fun u (hu : Below w2.heap.size w2 u) => (by
  rw [Lib.cell_of_heap ((hu.block g (lt_of_heap hk5.blk)).trans hk5.blk)]
  rfl : u.cell? ⟨g, 0, none⟩ = some (.map (some b))))
 have A5 := hyd (fun u (hu : Below w2.heap.size w2 u) => (row_arrD ((hu.block w.heap.size (lt_of_heap ha5)).trans ha5)))
 have O5 := hyd (fun u (hu : Below w2.heap.size w2 u) => (by
  have hq := (hu.block (w.heap.size + 1) (lt_of_heap ho5)).trans ho5; intro j v hv; rw [Nat.zero_add, Lib.cell_of_heap hq]
  match j, hv with
  | 0, hv => simpa using hv
  | 1, hv => simpa using hv
  | j + 2, hv => simp at hv : u.rangeAt (w.heap.size + 1) 0 [.int .i64 k, .slice a n c]))
 have LO := hyd (show (Tryz.prog.info? 34).map (·.size) = some ([Value.int .i64 k, .slice a n c] : List Value).length from infoOb); have CT := hyd (fun u (hu : Below w2.heap.size w2 u) => typedP_is k hk a n c l u hn.symm (hba u hu) hno (by omega))
 have PU := hyd (fun u (hu : Below w2.heap.size w2 u) (tv : Value) => (by
  have q := (hk5.map.keep (hu.block b hk5.map.lt)).put (v := tv) idKeyed Tryz.underlying46 (celP_keys (fun e he => (hk5.ent e he).1)) (key_idL i hi) hnewE hroomE; rw [hA1] at q
  exact q : ∃ w', (Instr.mapUpdate 46 (.map (some b)) (.agg A1) tv).run Tryz.prog u = .ok () w' ∧ MapAt w' b (celP E ++ [(.agg A1, tv)]) ∧ u.grownBy w' (some b) ∧ w'.heap.size = u.heap.size))
 have KI := hyd hi; have KK := hyd hk; have KA := hyd hA1; obtain ⟨T, hT, hth⟩ := kind_ty hk; have TH := hyd hth; clear hk5 ha5 ho5 hba hnewE hroomE hn hno hk hi hA1 hT hth; refine wp_regionX (S := fun u => Below w2.heap.size w2 u) (fun j => j == 7) (by kernel_rfl) (Below.refl _ _).drew (fun hd => ?_); refine tkX (v := ?sv0) 0 rfl (Or.inl ⟨by kernel_rfl, ?sy0⟩) hd ?_
 case sy0 => intro u hu; go_simp; try with_reducible rfl
 refine tkX (v := ?sv1) 1 rfl (Or.inl ⟨by kernel_rfl, ?sy1⟩) hd ?_
 case sy1 => intro u hu; go_simp; try with_reducible rfl
 refine tkX (v := ?sv2) 2 rfl (Or.inl ⟨by kernel_rfl, ?sy2⟩) hd ?_
 case sy2 => intro u hu; go_simp; try with_reducible rfl
 refine tkX (v := .map (some b)) 3 rfl (Or.inl ⟨by kernel_rfl, ?sy3x⟩) hd ?_
 case sy3x => intro u hu; have q := G5.out u hu; go_simp
 refine tkX 4 rfl (yieldsIf_load_mid (by kernel_rfl) 24 (.tmp 4) (by kernel_rfl) w.heap.size 0 (by kernel_rfl) A1.toList _ (fun u hu => A5.out u hu) Tryz.underlying24 rfl LA.out) hd ?_; refine tkX 5 rfl (yieldsIf_load_mid (by kernel_rfl) 34 (.tmp 5) (by kernel_rfl) (w.heap.size + 1) 0 (by kernel_rfl) [.int .i64 k, .slice a n c] _ (fun u hu => O5.out u hu) Tryz.underlying34 rfl LO.out) hd ?_; refine wpAnyX_ready (rs := [6]) (by kernel_rfl) (by simp) ?_; refine AllReadyX.cons rfl (fun K hK => ?_) AllReadyX.nil
 go_simp
 refine (CT.out _ hd).mono ?_; rintro e u1 ⟨v1, rfl, hr1, hf1, hI⟩
 have hF := fun q hq => Nat.le_trans hd.size (hf1 q hq)
 have hH := hd.trans (hI.mono hd.size); clear hd hI hf1; obtain ⟨a1, n1, c1, rfl⟩ := row_shape hr1; have R1 := hyd hr1; have F1 := hyd hF; clear hr1 hF; rw [TH.out]; refine hK.out _ _ (.inl hH) (fun _ => ?_); have hd := hH; clear hK K
 try simp only [Act.put, lsA, lsZ, lsS]
 refine wpAnyX_ready (rs := [7]) (by kernel_rfl) (by simp) ?_; refine AllReadyX.cons rfl (fun K hK => ?_) AllReadyX.nil; obtain ⟨u2, hrun, hm2, hg2, hs2⟩ := PU.out _ hd (.iface T (.agg #[.slice a1 n1 c1])); have HM := hyd hm2; have HG := hyd hg2; have HU := hyd hd; clear hm2 hg2 hs2 hd
 go_simp
 refine hK.out _ _ (.inr rfl) (fun _ => ?_); clear hK K
 try simp only [Act.put, lgA, lgS, lgZ, lsA, lsZ, lsS]
 refine wpAnyX_done (by kernel_rfl) ?_ _; have FIN := hyd (HK.out.put (i := i) (k := k) HU.out KI.out KK.out R1.out F1.out (by rw [KA.out, TH.out]; exact HM.out) HG.out); rw [HE.out] at FIN; clear HM HG HU R1 F1 HK; go_wp2; go_ret; exact ⟨rfl, FIN.out⟩
end Go.Proofs.YtnbcbiglkmdepaaGreatDoor
namespace Go.Proofs.YtnbcbiglkmdepaaGreatDoor
set_option maxRecDepth 100000
open Go.RowKit Go.Maps
theorem keep_nil {S C : Nat → Prop} {w : World} {g : Nat} {M : List Cel} (h : StoreP S w g M) (hCg : C g) (hbc : w.cell? ⟨g, 0, none⟩ = some (.map none)) (i : List UInt8) (hi : i.length = 20) (k : Int) (hk : kindO k) (v : Value) (l : List UInt8) (hv : Red w v l) (hl65 : l.length ≤ 65536) (hx : getM M i = none) :
  Calls Tryz.prog 19 #[.pointer (some ⟨g, 0, none⟩), .agg (arrD i), .agg #[.int .i64 k, v]] w fun e w' => e = .returned (.int .i64 0) ∧ StoreP (fun j => S j ∨ w.heap.size ≤ j) w' g (M ++ [⟨i, k, l⟩]) ∧ Chg C w w' := by
 obtain ⟨a, c, rfl, hb, hno, hc, hmx⟩ := hv; obtain ⟨n, hn⟩ : ∃ n, l.length = n := ⟨_, rfl⟩; obtain ⟨A1, hA1⟩ : ∃ A, arrD i = A := ⟨_, rfl⟩
 have sA : A1.size = 20 := by rw [← hA1]; exact arrD_size i hi
 rw [hn] at hno hc ⊢; have b1 := (Below.refl w.heap.size w).alloc (Nat.le_refl _) (.cells A1 24); have b2 := b1.alloc b1.size (.cells #[.int .i64 k, .slice a n c] 34)
 have hs1 : (w.alloc (.cells A1 24)).heap.size = w.heap.size + 1 := by simp
 have h02 := heap_alloc_new (w.alloc (.cells A1 24)) (.cells #[.int .i64 k, .slice a n c] 34); have h01 := (((Below.refl (w.alloc (.cells A1 24)).heap.size (w.alloc (.cells A1 24))).alloc (Nat.le_refl _) (.cells #[.int .i64 k, .slice a n c] 34)).block w.heap.size (by simp)).trans (heap_alloc_new w (.cells A1 24)); rw [hs1] at h02; have B1 := hyd b2; obtain ⟨w1, hw1⟩ : ∃ w1, (w.alloc (.cells A1 24)).alloc (.cells #[.int .i64 k, .slice a n c] 34) = w1 := ⟨_, rfl⟩; rw [hw1] at B1 h01 h02; have H1 := hyd h01; have H2 := hyd h02; have LA := hyd (show (Tryz.prog.info? 24).map (·.size) = some A1.toList.length from by rw [Array.length_toList, sA]; exact infoD_n); obtain ⟨mb, hl⟩ := h.look_none hi hx; obtain ⟨hg, E, mb2, hE, hblk, hent, hnone, hmap⟩ := h
 have hc2 : w.cell? ⟨g, 0, none⟩ = some (.map mb2) := by rw [Lib.cell_of_heap hblk]; rfl
 obtain rfl : mb2 = none := by rw [hbc] at hc2; exact (Value.map.inj (Option.some.inj hc2)).symm
 obtain rfl : mb = none := by have q := (hl w (Below.refl _ _)).1; rw [hbc] at q; exact (Value.map.inj (Option.some.inj q)).symm
 obtain rfl : E = [] := hnone rfl; obtain rfl : M = [] := hE.symm; rw [hA1] at hl ⊢; have HL := hyd (fun u (hu : Below w1.heap.size w1 u) => hl u (B1.out.trans (hu.mono B1.out.size))); have RA := hyd (fun u (hu : Below w1.heap.size w1 u) => (row_arrD ((hu.block w.heap.size (lt_of_heap H1.out)).trans H1.out)))
 have hnewE : ∀ m ∈ celP [], m.1 ≠ .agg (arrD i) := fun m hm => by cases hm
 have hroomE : (celP []).length < maxLen := by simp [celP, maxLen]
 have hlen := fun u ty => run_len_nilMap (P := Tryz.prog) u 46 ty (by kernel_rfl)
 have hq := fun w => run_eql_map_nil_sl (P := Tryz.prog) w 46 _ _ none Tryz.underlying46
 have HB0 := hyd hb; have HG0 := hyd hblk; have SG := hyd hg; have CG := hyd hCg; clear hCg hl hblk hent hnone hmap hg hc2 hbc hc hmx hx hb b1 b2 hs1 h01 h02 sA
 go_enter Tryz.func19, Tryz.ntmps19
 go_wp2_with fail
 refine rgB w1 (fun hd => ?_); refine tkW 0 rfl hd ?_; refine tkW 1 rfl hd ?_; refine tkW 2 rfl hd ?_; refine tkV 3 rfl (.map none) ?py3x hd ?_
 case py3x => intro u hu; have q := (HL.out u hu).1; go_simp
 refine tkH 4 rfl (yieldsIf_load_mid (by kernel_rfl) 24 (.tmp 4) (by kernel_rfl) w.heap.size 0 (by kernel_rfl) A1.toList _ (fun u hu => RA.out u hu) Tryz.underlying24 rfl LA.out) hd ?_; refine tkV 5 rfl (.tuple #[.nilIface, .bool false]) ?py5x hd ?_
 case py5x => intro u hu; have q := (HL.out u hu).2; go_simp
 refine tkW 6 rfl hd ?_; refine tkW 7 rfl hd ?_; refine tkW 8 rfl hd ?_; refine tkW 9 rfl hd ?_; refine tkW 10 rfl hd ?_
 try simp only [Act.put, lgA, lgS, lgZ, lsA, lsZ, lsS]
 refine wpAnyH_done (by kernel_rfl) ?_ _; obtain ⟨w2, hw2⟩ : ∃ w2, w1.drew = w2 := ⟨_, rfl⟩; rw [hw2] at hd ⊢; have HB := hyd (B1.out.trans (hd.mono B1.out.size)); have K1 := hyd ((hd.block w.heap.size (lt_of_heap H1.out)).trans H1.out); have K2 := hyd ((hd.block (w.heap.size + 1) (lt_of_heap H2.out)).trans H2.out); have pg := (HL.out _ hd).1; have G2 := hyd ((hd.block g (Nat.lt_of_lt_of_le (lt_of_heap HG0.out) B1.out.size)).trans ((B1.out.block g (lt_of_heap HG0.out)).trans HG0.out)); clear hd hw2; have hmm := @run_makeMap Tryz.prog; obtain ⟨w3, hw3⟩ : ∃ w3, w2.alloc (.map #[] 0) = w3 := ⟨_, rfl⟩; have gl : g < w2.heap.size := lt_of_heap G2.out; have GL := hyd gl
 have G3 : w3.heap[g]? = some (.cells #[.map none] 48 (0, 0)) := by rw [← hw3]; exact (Below.heap_alloc w2 _ g gl).trans G2.out
 have c3 : w3.cell? ⟨g, 0, none⟩ = some (.map none) := by rw [Lib.cell_of_heap G3]; rfl
 have f3 : w3.frozen? ⟨g, 0, none⟩ = false := by simp [World.frozen?, G3]
 have H3 := hyd G3; have M3 := hyd (show MapAt w3 w2.heap.size [] by rw [← hw3]; exact MapAt.made w2); have K13 := hyd (show w3.heap[w.heap.size]? = some (.cells A1 24 (0, 0)) by rw [← hw3]; exact (Below.heap_alloc w2 _ _ (lt_of_heap K1.out)).trans K1.out); have K23 := hyd (show w3.heap[w.heap.size + 1]? = some (.cells #[.int .i64 k, .slice a n c] 34 (0, 0)) by rw [← hw3]; exact (Below.heap_alloc w2 _ _ (lt_of_heap K2.out)).trans K2.out); have C3 := hyd (show Chg C w w3 by rw [← hw3]; exact (Chg.of_below HB.out).alloc _); have L3 := hyd (lt_of_heap HG0.out); clear G3 gl
 go_wp2_with fail
 obtain ⟨b, hbb⟩ : ∃ b, w2.heap.size = b := ⟨_, rfl⟩; obtain ⟨w5, hw5⟩ : ∃ w5, w3.setCell ⟨g, 0, none⟩ (.map (some w2.heap.size)) = w5 := ⟨_, rfl⟩; rw [hw5, hbb]; rw [hbb] at hw5 M3
 have gnb : g < b := by rw [← hbb]; exact GL.out
 have hoth : ∀ j, j ≠ g → w5.heap[j]? = w3.heap[j]? := fun j hj => by rw [← hw5]; exact heap_setCell_other w3 ⟨g, 0, none⟩ j _ hj
 have hg5 : w5.heap[g]? = some (.cells #[.map (some b)] 48 (0, 0)) := by rw [← hw5, heap_setCell_same w3 g 0 _ _ _ H3.out]; rfl
 have hk5 : KeepAt S C w w5 g b [] := ⟨by rw [← hw5]; exact C3.out.setCell ⟨g, 0, none⟩ (fun _ => CG.out) _, hg5, M3.out.keep (hoth b (by omega)), .inr (by rw [← hbb]; exact HB.out.size), .inr (by rw [← hbb]; exact HB.out.size), by omega, SG.out, fun e he => by cases he⟩; have l3 := L3.out; have ha5 : w5.heap[w.heap.size]? = some (.cells A1 24 (0, 0)) := (hoth _ (by omega)).trans K13.out; have ho5 : w5.heap[w.heap.size + 1]? = some (.cells #[.int .i64 k, .slice a n c] 34 (0, 0)) := (hoth _ (by omega)).trans K23.out
 have hs5 : w3.heap.size ≤ w5.heap.size := by rw [← hw5]; simp
 have hba3 : BAt w3 a l := HB0.out.keep (by rw [← hw3]; exact HB.out.alloc HB.out.size _)
 have hba5 : BAt w5 a l := hba3.same hs5 (fun ad hp ha => hoth _ (fun e => by
  obtain ⟨q, o, q1, q2, q3⟩ := hba3 hp; rw [q1] at ha
  cases ha
  have q4 := q3 0 hp; simp only at e; rw [e, Lib.cell_of_heap H3.out] at q4
  match o, q4 with
  | 0, q4 => simp at q4
  | o + 1, q4 => simp at q4))
 have hba := fun u (hu : Below w5.heap.size w5 u) => hba5.keep hu
 clear c3 f3 hoth hg5 l3 hs5 hba3 hba5 hw5 hmm hbb gnb hw3; have HK := hyd hk5; have HB5 := hyd (Below.refl w5.heap.size w5)
 have G5 := hyd (fun u (hu : Below w5.heap.size w5 u) => (by
  rw [Lib.cell_of_heap ((hu.block g (lt_of_heap hk5.blk)).trans hk5.blk)]
  rfl : u.cell? ⟨g, 0, none⟩ = some (.map (some b))))
 have A5 := hyd (fun u (hu : Below w5.heap.size w5 u) => (row_arrD ((hu.block w.heap.size (lt_of_heap ha5)).trans ha5)))
 have O5 := hyd (fun u (hu : Below w5.heap.size w5 u) => (by
  have hq := (hu.block (w.heap.size + 1) (lt_of_heap ho5)).trans ho5; intro j v hv; rw [Nat.zero_add, Lib.cell_of_heap hq]
  match j, hv with
  | 0, hv => simpa using hv
  | 1, hv => simpa using hv
  | j + 2, hv => simp at hv : u.rangeAt (w.heap.size + 1) 0 [.int .i64 k, .slice a n c]))
 have LO := hyd (show (Tryz.prog.info? 34).map (·.size) = some ([Value.int .i64 k, .slice a n c] : List Value).length from infoOb); have CT := hyd (fun u (hu : Below w5.heap.size w5 u) => typedP_is k hk a n c l u hn.symm (hba u hu) hno (by omega))
 have PU := hyd (fun u (hu : Below w5.heap.size w5 u) (tv : Value) => (by
  have q := (hk5.map.keep (hu.block b hk5.map.lt)).put (v := tv) idKeyed Tryz.underlying46 (celP_keys (fun e he => (hk5.ent e he).1)) (key_idL i hi) hnewE hroomE; rw [hA1] at q
  exact q : ∃ w', (Instr.mapUpdate 46 (.map (some b)) (.agg A1) tv).run Tryz.prog u = .ok () w' ∧ MapAt w' b (celP [] ++ [(.agg A1, tv)]) ∧ u.grownBy w' (some b) ∧ w'.heap.size = u.heap.size))
 have KI := hyd hi; have KK := hyd hk; have KA := hyd hA1; obtain ⟨T, hT, hth⟩ := kind_ty hk; have TH := hyd hth; clear hk5 ha5 ho5 hba hnewE hroomE hn hno hk hi hA1 hT hth; refine wp_regionX (S := fun u => Below w5.heap.size w5 u) (fun j => j == 7) (by kernel_rfl) (Below.refl _ _).drew (fun hd => ?_); refine tkX (v := ?sv0) 0 rfl (Or.inl ⟨by kernel_rfl, ?sy0⟩) hd ?_
 case sy0 => intro u hu; go_simp; try with_reducible rfl
 refine tkX (v := ?sv1) 1 rfl (Or.inl ⟨by kernel_rfl, ?sy1⟩) hd ?_
 case sy1 => intro u hu; go_simp; try with_reducible rfl
 refine tkX (v := ?sv2) 2 rfl (Or.inl ⟨by kernel_rfl, ?sy2⟩) hd ?_
 case sy2 => intro u hu; go_simp; try with_reducible rfl
 refine tkX (v := .map (some b)) 3 rfl (Or.inl ⟨by kernel_rfl, ?sy3x⟩) hd ?_
 case sy3x => intro u hu; have q := G5.out u hu; go_simp
 refine tkX 4 rfl (yieldsIf_load_mid (by kernel_rfl) 24 (.tmp 4) (by kernel_rfl) w.heap.size 0 (by kernel_rfl) A1.toList _ (fun u hu => A5.out u hu) Tryz.underlying24 rfl LA.out) hd ?_; refine tkX 5 rfl (yieldsIf_load_mid (by kernel_rfl) 34 (.tmp 5) (by kernel_rfl) (w.heap.size + 1) 0 (by kernel_rfl) [.int .i64 k, .slice a n c] _ (fun u hu => O5.out u hu) Tryz.underlying34 rfl LO.out) hd ?_; refine wpAnyX_ready (rs := [6]) (by kernel_rfl) (by simp) ?_; refine AllReadyX.cons rfl (fun K hK => ?_) AllReadyX.nil
 go_simp
 refine (CT.out _ hd).mono ?_; rintro e u1 ⟨v1, rfl, hr1, hf1, hI⟩
 have hF := fun q hq => Nat.le_trans hd.size (hf1 q hq)
 have hH := hd.trans (hI.mono hd.size); clear hd hI hf1; obtain ⟨a1, n1, c1, rfl⟩ := row_shape hr1; have R1 := hyd hr1; have F1 := hyd hF; clear hr1 hF; rw [TH.out]; refine hK.out _ _ (.inl hH) (fun _ => ?_); have hd := hH; clear hK K
 try simp only [Act.put, lsA, lsZ, lsS]
 refine wpAnyX_ready (rs := [7]) (by kernel_rfl) (by simp) ?_; refine AllReadyX.cons rfl (fun K hK => ?_) AllReadyX.nil; obtain ⟨u2, hrun, hm2, hg2, hs2⟩ := PU.out _ hd (.iface T (.agg #[.slice a1 n1 c1])); have HM := hyd hm2; have HG := hyd hg2; have HU := hyd hd; clear hm2 hg2 hs2 hd
 go_simp
 refine hK.out _ _ (.inr rfl) (fun _ => ?_); clear hK K
 try simp only [Act.put, lgA, lgS, lgZ, lsA, lsZ, lsS]
 refine wpAnyX_done (by kernel_rfl) ?_ _; have FIN := hyd (HK.out.put (i := i) (k := k) HU.out KI.out KK.out R1.out F1.out (by rw [KA.out, TH.out]; exact HM.out) HG.out); clear HM HG HU R1 F1 HK; go_wp2; go_ret; exact ⟨rfl, FIN.out⟩
end Go.Proofs.YtnbcbiglkmdepaaGreatDoor
namespace Go.Proofs.YtnbcbiglkmdepaaGreatDoor
set_option maxRecDepth 20000
open Go.RowKit
def putM (M : List Cel) (k : Int) (b : List UInt8) : List Cel × List UInt8 × Int :=
 if (printO k b).2 = 0 then
  match getM M (sumO k b) with
  | some c => (M, pickI (c.kind == k && c.body == b) (sumO k b), pickE (c.kind == k && c.body == b))
  | none => (M ++ [⟨sumO k b, k, b⟩], sumO k b, 0)
 else (M, idZ, (printO k b).2)
theorem sumO_len {k : Int} {b : List UInt8} (he : (printO k b).2 = 0) : (sumO k b).length = 20 := by
 unfold sumO; rw [if_pos he]
 simp [sumL, digest_len]
theorem keep_new {S C : Nat → Prop} {w : World} {g : Nat} {M : List Cel} (h : StoreP S w g M) (hCg : C g) (hCb : ∀ b, w.heap[g]? = some (.cells #[.map (some b)] 48 (0, 0)) → C b) (i : List UInt8) (hi : i.length = 20) (k : Int) (hk : kindO k) (v : Value) (l : List UInt8) (hv : Red w v l) (hl65 : l.length ≤ 65536) (hx : getM M i = none) (hM : M.length < 5000) :
  Calls Tryz.prog 19 #[.pointer (some ⟨g, 0, none⟩), .agg (arrD i), .agg #[.int .i64 k, v]] w fun e w' => e = .returned (.int .i64 0) ∧ StoreP (fun j => S j ∨ w.heap.size ≤ j) w' g (M ++ [⟨i, k, l⟩]) ∧ Chg C w w' := by
 have h2 := h; obtain ⟨hg, E, mb, hE, hblk, _⟩ := h2
 have hc : w.cell? ⟨g, 0, none⟩ = some (.map mb) := by rw [Lib.cell_of_heap hblk]; rfl
 cases mb with
 | none => exact keep_nil h hCg hc i hi k hk v l hv hl65 hx
 | some b => exact keep_some h (hCb b hblk) hc i hi k hk v l hv hl65 hx hM
theorem StoreP.map_of {S : Nat → Prop} {w : World} {g c : Nat} {M : List Cel} (h : StoreP S w g M) (hc : w.heap[g]? = some (.cells #[.map (some c)] 48 (0, 0))) : S c ∧ c ≠ g ∧ c < w.heap.size := by
 obtain ⟨hg, E, mb, h1, h2, h3, h4, h5⟩ := h; rw [h2] at hc
 have e : mb = some c := by
  have := Option.some.inj hc
  simpa using this
 obtain ⟨k1, k2, k3⟩ := h5 c e; exact ⟨k1, k2, k3.lt⟩
theorem StoreP.map_lt {S : Nat → Prop} {w : World} {g c : Nat} {M : List Cel} (h : StoreP S w g M) (hc : w.heap[g]? = some (.cells #[.map (some c)] 48 (0, 0))) : c < w.heap.size := (h.map_of hc).2.2
theorem StoreP.map_in {S : Nat → Prop} {w : World} {g c : Nat} {M : List Cel} (h : StoreP S w g M) (hc : w.heap[g]? = some (.cells #[.map (some c)] 48 (0, 0))) : S c := (h.map_of hc).1
theorem StoreP.behind {S0 : Nat → Prop} {w u u' w' : World} {g : Nat} {M : List Cel} (hS0 : ∀ j, S0 j → j < w.heap.size) (h : StoreP (fun j => S0 j ∨ u.heap.size ≤ j) u' g M) (hc : Chg (fun j => w.heap.size ≤ j ∧ j < u.heap.size) u' w') :
  StoreP (fun j => S0 j ∨ u.heap.size ≤ j) w' g M :=
 h.keep ⟨hc.size, fun j hj hl => hc.block j hl (fun hn => by
  rcases hj with hj | hj
  ·have := hS0 j hj; omega
  ·omega)⟩
theorem PutP_isC {S C : Nat → Prop} {w : World} {g : Nat} {M : List Cel} (h : StoreP S w g M) (hCg : C g) (hCb : ∀ b, w.heap[g]? = some (.cells #[.map (some b)] 48 (0, 0)) → C b) (k : Int) (v : Value) (b : List UInt8) (hv : Red w v b) (tab : Tab w) (hM : M.length < 5000) :
  Calls Tryz.prog 7 #[.pointer (some ⟨g, 0, none⟩), .agg #[.int .i64 k, v]] w fun e w' => e = .returned (.tuple #[.agg (arrD (putM M k b).2.1), .int .i64 (putM M k b).2.2]) ∧
   StoreP (fun j => S j ∨ (w.heap.size ≤ j ∧ j < w'.heap.size)) w' g (putM M k b).1 ∧ Chg C w w' := by
 have hCc : ∀ c, w.heap[g]? = some (.cells #[.map (some c)] 48 (0, 0)) → C c ∧ c < w.heap.size := fun c hc => ⟨hCb c hc, h.map_lt hc⟩
 have h0 : StoreP (fun j => S j ∧ j < w.heap.size) w g M := h.mono (fun j hj hs => ⟨hs, hj⟩)
 have hS0 : ∀ j, (S j ∧ j < w.heap.size) → j < w.heap.size := fun j h => h.2
 by_cases he : (printO k b).2 = 0
 ·have sl := sumO_len he
  obtain ⟨hk, hl65⟩ := printO_zero he
  cases hx : getM M (sumO k b) with
  | some x =>
   have e1 : putM M k b = (M, pickI (x.kind == k && x.body == b) (sumO k b), pickE (x.kind == k && x.body == b)) := by
    unfold putM; rw [if_pos he, hx]
   rw [e1]; obtain ⟨r, hr⟩ : ∃ r, (x.kind == k && x.body == b) = r := ⟨_, rfl⟩; refine (PutP_any (g := g) k v b hv tab he (fun _ => False) (fun j h => h.elim) (pickE r) (fun u u' => Below u.heap.size u u') (fun u hu => (keep_there (h.below hu) (sumO k b) sl k v b (hv.below hu (Nat.le_refl _)) x hx).mono ?_)).mono ?_
   ·rintro e u' ⟨rfl, hb⟩
    exact ⟨by rw [hr], hb, Chg.of_below hb⟩
   ·rintro e w' ⟨rfl, u, u', hu, hR, hC, hC2⟩
    have hb : Below w.heap.size w w' := (hu.trans (hR.mono hu.size)).trans (hC2.below (Nat.le_trans hu.size hR.size) (fun j _ h => h.1)); refine ⟨?_, (h.below hb).mono (fun j _ hj => .inl hj), Chg.of_below hb⟩; rw [hr]
    cases r <;> rfl
  | none =>
   have e1 : putM M k b = (M ++ [⟨sumO k b, k, b⟩], sumO k b, 0) := by
    unfold putM; rw [if_pos he, hx]
   rw [e1]; refine (PutP_any (g := g) k v b hv tab he (fun j => C j ∧ j < w.heap.size) (fun j h => h.2) 0 (fun u u' => StoreP (fun j => (S j ∧ j < w.heap.size) ∨ u.heap.size ≤ j) u' g (M ++ [⟨sumO k b, k, b⟩])) (fun u hu => keep_new (C := fun j => C j ∧ j < w.heap.size) (h0.below hu) ⟨hCg, h.lt⟩ (fun c hc => hCc c ((hu.block g h.lt).symm.trans hc)) (sumO k b) sl k hk v b (hv.below hu (Nat.le_refl _)) hl65 hx hM)).mono ?_; rintro e w' ⟨rfl, u, u', hu, hR, hC, hC2⟩; have hsu := hu.size; refine ⟨rfl, (hR.behind hS0 hC2).mono (fun j hj hs => ?_), ?_⟩
   ·rcases hs with hs | hs
    ·exact .inl hs.1
    ·exact .inr ⟨Nat.le_trans hsu hs, hj⟩
   ·exact (((Chg.of_below (S := fun j => C j ∧ j < w.heap.size) hu).more hC (fun j _ h => h)).more hC2 (fun j hj h => by omega)).weak (fun j _ h => h.1)
 ·have e1 : putM M k b = (M, idZ, (printO k b).2) := by
   unfold putM; rw [if_neg he]
  rw [e1]; refine (PutP_bad (g := g) k v b hv tab he).mono ?_; rintro e w' ⟨rfl, hb⟩; exact ⟨rfl, (h.below hb).mono (fun j _ hj => .inl hj), Chg.of_below hb⟩
theorem PutP_is {S : Nat → Prop} {w : World} {g : Nat} {M : List Cel} (h : StoreP S w g M) (k : Int) (v : Value) (b : List UInt8) (hv : Red w v b) (tab : Tab w) (hM : M.length < 5000) :
  Calls Tryz.prog 7 #[.pointer (some ⟨g, 0, none⟩), .agg #[.int .i64 k, v]] w fun e w' => e = .returned (.tuple #[.agg (arrD (putM M k b).2.1), .int .i64 (putM M k b).2.2]) ∧
   StoreP (fun j => S j ∨ (w.heap.size ≤ j ∧ j < w'.heap.size)) w' g (putM M k b).1 ∧ Chg S w w' := PutP_isC h h.1 (fun c hc => h.map_in hc) k v b hv tab hM
theorem putM_putS {M L : List Cel} (hp : M.Perm L) (hG : GoodS sumO L) (hL : L.length < 5000) (k : Int) (b : List UInt8) :
  (putM M k b).1.Perm (putS sumO 5000 L k b).1 ∧ (putM M k b).2 = (putS sumO 5000 L k b).2 := by
 by_cases he : (printO k b).2 = 0
 ·have eg := getM_getS hp hG.srt (sumO k b)
  cases hx : getS L (sumO k b) with
  | some x =>
   rw [hx] at eg
   have e1 : putM M k b = (M, pickI (x.kind == k && x.body == b) (sumO k b), pickE (x.kind == k && x.body == b)) := by
    unfold putM; rw [if_pos he, eg]
   rw [e1, putS_there he hx]; exact ⟨hp, rfl⟩
  | none =>
   rw [hx] at eg
   have e1 : putM M k b = (M ++ [⟨sumO k b, k, b⟩], sumO k b, 0) := by
    unfold putM; rw [if_pos he, eg]
   have e2 : putS sumO 5000 L k b = (putAt L (atS L (sumO k b)) ⟨sumO k b, k, b⟩, sumO k b, 0) := by
    unfold putS; rw [if_pos he, hx]; exact if_neg (by omega)
   rw [e1, e2]; refine ⟨?_, rfl⟩; unfold putAt; refine (hp.append_right _).trans ?_; refine (List.perm_append_singleton _ _).trans ?_; have := (List.take_append_drop (atS L (sumO k b)) L); refine List.Perm.trans ?_ List.perm_middle.symm; rw [this]
 ·have e1 : putM M k b = (M, idZ, (printO k b).2) := by
   unfold putM; rw [if_neg he]
  rw [e1, putS_bad he]; exact ⟨hp, rfl⟩
end Go.Proofs.YtnbcbiglkmdepaaGreatDoor
namespace Go.Proofs
open Go.Shelf
def Tryz.sortX_ren : Go.Shelf.Ren := ⟨fun | 6 => 67 | 15 => 94 | 14 => 93 | 28 => 124 | 29 => 125 | 20 => 116 | 21 => 117 | 22 => 118 | 23 => 119 | 24 => 120 | 25 => 121 | 26 => 122 | 27 => 123 | 46 => 147 | 47 => 148 | 48 => 149 | 49 => 150 | 50 => 151 | 57 => 168 | n => n, fun | 22 => 43 | 24 => 24 | 25 => 86 | 3 => 3 | 39 => 136 | 0 => 0 | 53 => 123 | 55 => 126 | 4 => 4 | 46 => 194 | 45 => 193 | 50 => 54 | 5 => 5 | 9 => 9 | 66 => 209 | 70 => 213 | 76 => 222 | 77 => 165 | n => n, fun | n => n⟩
theorem Tryz.sortX : Go.Proofs.SlLaysF0.n6 Tryz.prog Tryz.sortX_ren := {
 mixed := by kernel_rfl
 f6 := ⟨Tryz.f67.name, by decide, Tryz.func67.trans (congrArg some (by kernel_rfl))⟩
 f14 := ⟨Tryz.f93.name, by decide, Tryz.func93.trans (congrArg some (by kernel_rfl))⟩
 f15 := Tryz.func94.trans (congrArg some (by kernel_rfl))
 f20 := ⟨Tryz.f116.name, by decide, Tryz.func116.trans (congrArg some (by kernel_rfl))⟩
 f21 := ⟨Tryz.f117.name, by decide, Tryz.func117.trans (congrArg some (by kernel_rfl))⟩
 f22 := ⟨Tryz.f118.name, by decide, Tryz.func118.trans (congrArg some (by kernel_rfl))⟩
 f23 := ⟨Tryz.f119.name, by decide, Tryz.func119.trans (congrArg some (by kernel_rfl))⟩
 f24 := ⟨Tryz.f120.name, by decide, Tryz.func120.trans (congrArg some (by kernel_rfl))⟩
 f25 := ⟨Tryz.f121.name, by decide, Tryz.func121.trans (congrArg some (by kernel_rfl))⟩
 f26 := ⟨Tryz.f122.name, by decide, Tryz.func122.trans (congrArg some (by kernel_rfl))⟩
 f27 := ⟨Tryz.f123.name, by decide, Tryz.func123.trans (congrArg some (by kernel_rfl))⟩
 f28 := Tryz.func124.trans (congrArg some (by kernel_rfl))
 f29 := Tryz.func125.trans (congrArg some (by kernel_rfl))
 f46 := ⟨Tryz.f147.name, by decide, Tryz.func147.trans (congrArg some (by kernel_rfl))⟩
 f47 := Tryz.func148.trans (congrArg some (by kernel_rfl))
 f48 := Tryz.func149.trans (congrArg some (by kernel_rfl))
 f49 := ⟨Tryz.f150.name, by decide, Tryz.func150.trans (congrArg some (by kernel_rfl))⟩
 f50 := ⟨Tryz.f151.name, by decide, Tryz.func151.trans (congrArg some (by kernel_rfl))⟩
 f57 := ⟨Tryz.f168.name, by decide, Tryz.func168.trans (congrArg some (by kernel_rfl))⟩
 t0 := Tryz.underlying0
 a0 := Tryz.isAgg0
 z0 := Tryz.sizeOf0
 v0 := Tryz.zeroValue0
 t3 := Tryz.underlying3
 a3 := Tryz.isAgg3
 z3 := Tryz.sizeOf3
 v3 := Tryz.zeroValue3
 t4 := Tryz.underlying4
 a4 := Tryz.isAgg4
 z4 := Tryz.sizeOf4
 v4 := Tryz.zeroValue4
 t5 := Tryz.underlying5
 a5 := Tryz.isAgg5
 z5 := Tryz.sizeOf5
 v5 := Tryz.zeroValue5
 t9 := Tryz.underlying9
 a9 := Tryz.isAgg9
 z9 := Tryz.sizeOf9
 v9 := Tryz.zeroValue9
 t22 := Tryz.underlying43
 a22 := Tryz.isAgg43
 z22 := Tryz.sizeOf43
 v22 := Tryz.zeroValue43
 t25 := Tryz.underlying86
 a25 := Tryz.isAgg86
 z25 := Tryz.sizeOf86
 v25 := Tryz.zeroValue86
 t39 := Tryz.underlying136
 a39 := Tryz.isAgg136
 z39 := Tryz.sizeOf136
 v39 := Tryz.zeroValue136
 t45 := Tryz.underlying193
 a45 := Tryz.isAgg193
 z45 := Tryz.sizeOf193
 v45 := Tryz.zeroValue193
 t46 := Tryz.underlying194
 a46 := Tryz.isAgg194
 z46 := Tryz.sizeOf194
 v46 := Tryz.zeroValue194
 t50 := Tryz.underlying54
 a50 := Tryz.isAgg54
 z50 := Tryz.sizeOf54
 v50 := Tryz.zeroValue54
 t53 := Tryz.underlying123
 a53 := Tryz.isAgg123
 z53 := Tryz.sizeOf123
 v53 := Tryz.zeroValue123
 t55 := Tryz.underlying126
 a55 := Tryz.isAgg126
 z55 := Tryz.sizeOf126
 v55 := Tryz.zeroValue126
 t66 := Tryz.underlying209
 a66 := Tryz.isAgg209
 z66 := Tryz.sizeOf209
 v66 := Tryz.zeroValue209
 t70 := Tryz.underlying213
 a70 := Tryz.isAgg213
 z70 := Tryz.sizeOf213
 v70 := Tryz.zeroValue213
 t76 := Tryz.underlying222
 a76 := Tryz.isAgg222
 z76 := Tryz.sizeOf222
 v76 := Tryz.zeroValue222
 t77 := Tryz.underlying165
 a77 := Tryz.isAgg165
 z77 := Tryz.sizeOf165
 v77 := Tryz.zeroValue165 }
def Tryz.cloneX_ren : Go.Shelf.Ren := ⟨fun | 5 => 26 | 7 => 56 | n => n, fun | 23 => 46 | 25 => 24 | 3 => 63 | 4 => 4 | 20 => 20 | n => n, fun | n => n⟩
theorem Tryz.cloneX : Go.Proofs.SlLaysW.n5 Tryz.prog Tryz.cloneX_ren := {
 mixed := by kernel_rfl
 f5 := ⟨Tryz.f26.name, by decide, Tryz.func26.trans (congrArg some (by kernel_rfl))⟩
 f7 := Tryz.func56.trans (congrArg some (by kernel_rfl))
 t4 := Tryz.underlying4
 a4 := Tryz.isAgg4
 z4 := Tryz.sizeOf4
 v4 := Tryz.zeroValue4
 t20 := Tryz.underlying20
 a20 := Tryz.isAgg20
 z20 := Tryz.sizeOf20
 v20 := Tryz.zeroValue20
 t23 := Tryz.underlying46
 a23 := Tryz.isAgg46
 z23 := Tryz.sizeOf46
 v23 := Tryz.zeroValue46 }
end Go.Proofs
namespace Go.Proofs.YtnbcbiglkmdepaaGreatDoor
set_option maxRecDepth 20000
open Go.RowKit
def ForkS (S : Nat → Prop) (w : World) (g : Nat) (j : Nat) : Prop := S j ∧ j ≠ g ∧ ∀ c, w.heap[g]? = some (.cells #[.map (some c)] 48 (0, 0)) → j ≠ c
theorem ForkP_is {S : Nat → Prop} {w : World} {g : Nat} {M : List Cel} (h : StoreP S w g M) :
  Calls Tryz.prog 11 #[.pointer (some ⟨g, 0, none⟩)] w fun e w' => ∃ g', e = .returned (.pointer (some ⟨g', 0, none⟩)) ∧ w.heap.size ≤ g' ∧ Below w.heap.size w w' ∧
   StoreP (fun j => ForkS S w g j ∨ (w.heap.size ≤ j ∧ j < w'.heap.size)) w' g' M := by
 obtain ⟨hg, E, mb, hE, hblk, hent, hnone, hmap⟩ := h
 have pg : w.cell? ⟨g, 0, none⟩ = some (.map mb) := by rw [Lib.cell_of_heap hblk]; rfl
 have HB := hyd hblk; clear hblk
 cases mb with
 | none =>
  have hE0 := hnone rfl; subst hE0; subst hE
  go_enter Tryz.func11, Tryz.ntmps11
  go_wp2_with fail
  have cS : Calls Tryz.prog 26 _ _ _ := AnyW.maps_Clone_nil Tryz.cloneX w; refine cS.mono ?_; rintro e w1 ⟨rfl, rfl⟩; go_wp2; go_ret; refine ⟨w1.heap.size, rfl, Nat.le_refl _, (Below.refl w1.heap.size w1).alloc (Nat.le_refl _) _, ?_⟩; exact StoreP.new _ w1 (.inr ⟨Nat.le_refl _, by simp⟩)
 | some b =>
  obtain ⟨hSb, hbg, hMap⟩ := hmap b rfl; obtain ⟨es, clock, hb, hst, hmx, hcel⟩ := hMap
  go_enter Tryz.func11, Tryz.ntmps11
  go_wp2_with fail
  have cS : Calls Tryz.prog 26 _ _ _ := AnyW.maps_Clone Tryz.cloneX b es clock w hb; refine cS.mono ?_; rintro e w1 ⟨rfl, rfl⟩; go_wp2; go_ret; have b1 : Below w.heap.size w (w.alloc (.map es clock)) := (Below.refl w.heap.size w).alloc (Nat.le_refl _) _; have b2 := b1.alloc b1.size (.cells #[.map (some w.heap.size)] 48)
  have hs1 : (w.alloc (.map es clock)).heap.size = w.heap.size + 1 := by simp
  have hm1 : ((w.alloc (.map es clock)).alloc (.cells #[.map (some w.heap.size)] 48)).heap[w.heap.size]? = some (.map es clock) := (Below.heap_alloc _ _ _ (by simp)).trans (MapKept.heap_alloc w _).1; have hg1 := heap_alloc_new (w.alloc (.map es clock)) (.cells #[.map (some w.heap.size)] 48)
  have hs2 : ((w.alloc (.map es clock)).alloc (.cells #[.map (some w.heap.size)] 48)).heap.size = w.heap.size + 2 := by simp
  rw [hs1] at hg1; refine ⟨w.heap.size + 1, rfl, by omega, b2, .inr ⟨by omega, by omega⟩, E, some w.heap.size, hE, hg1, fun e he => ?_, fun e => (by cases e), fun c hc => ?_⟩
  ·obtain ⟨h1, h2, h3⟩ := hent e he
   refine ⟨h1, h2, ((h3.mono (S' := fun k => (S k ∧ k ≠ g ∧ some b ≠ some k) ∧ k < w.heap.size) (fun k hk hs => ⟨hs, hk⟩)).keep (Stays.of b2)).mono (fun k _ hk => ⟨.inl ⟨hk.1.1, hk.1.2.1, fun c hc e => ?_⟩, by omega, fun e => by have := Option.some.inj e; omega⟩)⟩; rw [HB.out] at hc; have hc2 := Option.some.inj hc; simp only [Obj.cells.injEq, and_true] at hc2
   have hc3 : b = c := by simpa using hc2
   exact hk.1.2.2 (by rw [hc3, e])
  ·cases hc
   exact ⟨.inr ⟨Nat.le_refl _, by omega⟩, by omega, es, clock, hm1, hst, hmx, hcel⟩
theorem Kept_any (g n n2 c c2 : Nat) (a : Option Addr) (l : List UInt8) (f : Int) (w : World) (ho : OwnAt w g l f) (h : BAt w a l) (e1 : n = l.length) (e2 : c = l.length + 3) (e3 : n2 = l.length) (hn : l.length ≤ 1099511627776) :
  Calls Tryz.prog 9 #[.slice (some ⟨g, 0, none⟩) n c, .slice a n2 c2, .int .u8 f] w fun e w' => e = .returned (.bool true) ∧ Below w.heap.size w w' := by
 subst e1; subst e2; subst e3; have P := hyd (fun c1 => Plain_any (some ⟨g, 0, none⟩) a l.length l.length c1 c2 l w ho.bat h rfl rfl hn); have HO := hyd ho; have hg := ho.lt; clear ho h
 go_enter Tryz.func9, Tryz.ntmps9
 go_wp2_with fail
 refine (P.out _).mono ?_; rintro e w1 ⟨rfl, hb1⟩; have HO1 := hyd (HO.out.keep hb1)
 go_wp2_with fail
 go_loopw [8] (fun i wr => ∃ k : Nat, l.length ≤ k ∧ k ≤ l.length + 3 ∧ i = .int .i64 k ∧ Below w.heap.size w wr) (fun i _ => l.length + 3 - (intOf i).toNat)
 case atStart => exact ⟨l.length, Nat.le_refl _, by omega, rfl, hb1⟩
 case round =>
  obtain ⟨k, hk0, hk, rfl, hbr⟩ := hrel
  by_cases hlt : k < l.length + 3
  ·have hcell := (HO.out.keep hbr).room k hk0 hlt
   go_wp2
   go_roundw
   case rel => exact ⟨k + 1, by omega, by omega, by go_num, hbr⟩
   case measure => simp [intOf]; omega
  ·obtain rfl : k = l.length + 3 := by omega
   go_wp2; go_ret; exact ⟨rfl, hbr⟩
theorem rPut_is {S : Nat → Prop} {w : World} {g : Nat} {L : List Cel} (h : StoreAt S w g L) (k : Int) (v : Value) (b : List UInt8) (hv : Red w v b) (hm : L.length ≤ 1000000) :
  Calls Tryz.prog 8 #[.pointer (some ⟨g, 0, none⟩), .agg #[.int .i64 k, v]] w fun e w' => e = .returned (.tuple #[.agg (arrD (putS sumO 5000 L k b).2.1), .int .i64 (putS sumO 5000 L k b).2.2]) ∧
   StoreAt (fun j => S j ∨ (w.heap.size ≤ j ∧ j < w'.heap.size)) w' g (putS sumO 5000 L k b).1 ∧ Off g w w' := by
 by_cases he : (printO k b).2 = 0
 ·cases hx : getS L (sumO k b) with
  | some x =>
   rw [putS_there he hx]; refine (rPut_there h k v b hv he hm x hx).mono ?_; rintro e w' ⟨rfl, hb⟩; exact ⟨rfl, (h.below hb).mono (fun j _ hj => .inl hj), off_of hb⟩
  | none =>
   by_cases hf : L.length < 5000
   ·have e1 : putS sumO 5000 L k b = (putAt L (atS L (sumO k b)) ⟨sumO k b, k, b⟩, sumO k b, 0) := by
     unfold putS; rw [if_pos he, hx]; exact if_neg (by omega)
    rw [e1]; refine (rPut_new h k v b hv he hm hf hx).mono ?_; rintro e w' ⟨rfl, hs, ho⟩; exact ⟨rfl, hs.mono (fun j hj hs => hs.imp id (fun h => ⟨h, hj⟩)), ho⟩
   ·rw [putS_full he hx (by omega)]
    refine (rPut_full h k v b hv he hm (by omega) hx).mono ?_; rintro e w' ⟨rfl, hb⟩; exact ⟨rfl, (h.below hb).mono (fun j _ hj => .inl hj), off_of hb⟩
 ·rw [putS_bad he]
  refine (rPut_bad k v b hv he).mono ?_; rintro e w' ⟨rfl, hb⟩; exact ⟨rfl, (h.below hb).mono (fun j _ hj => .inl hj), off_of hb⟩
end Go.Proofs.YtnbcbiglkmdepaaGreatDoor
namespace Go.Proofs.YtnbcbiglkmdepaaGreatDoor
set_option maxRecDepth 20000
open Go.RowKit Go.Sort
theorem run_bytesOf {P : Program} {w : World} {a : Option Addr} {l : List UInt8} {c : Nat} (h : BAt w a l) (hno : a = none → l.length = 0) : (Extern.Bytes.bytesOf (.slice a l.length c)).run P w = .ok ⟨l.toArray⟩ w := by
 cases a with
 | none =>
  have e := hno rfl; obtain rfl : l = [] := List.eq_nil_of_length_eq_zero e
  rfl
 | some ad =>
  show (Extern.Bytes.loadBytes ad l.length .empty).run P w = _
  have h2 := Lib.run_loadBytesX (P := P) w (l.map fun c => (c.toNat : Int)) ad .empty (fun j x hj => by
   rw [List.getElem?_map] at hj
   cases hl : l[j]? with
   | none => rw [hl] at hj; cases hj
   | some y =>
    rw [hl] at hj
    cases hj
    exact h.cells ad rfl j _ (by simp [Lib.byteCells, hl]))
  rw [List.length_map] at h2; rw [h2]
  simp [Lib.bytesOf, ByteArray.empty, ByteArray.emptyWithCapacity, Function.comp_def]
  rfl
theorem run_compare {P : Program} {w : World} {a1 a2 : Option Addr} {l1 l2 : List UInt8} {c1 c2 : Nat} (h1 : BAt w a1 l1) (h2 : BAt w a2 l2) (n1 : a1 = none → l1.length = 0) (n2 : a2 = none → l2.length = 0) :
  (Extern.BytealgCompare.compare #[.slice a1 l1.length c1, .slice a2 l2.length c2]).run P w = .ok (.int .i64 (Lib.compareBytes l1 l2)) w := by
 change Sem.run P (do pure (goInt (Extern.BytealgCompare.cmp (← Extern.Bytes.bytesOf (.slice a1 l1.length c1)) (← Extern.Bytes.bytesOf (.slice a2 l2.length c2))))) w = _
 simp only [Sem.run_bind, run_bytesOf h1 n1, run_bytesOf h2 n2, Sem.run_pure, Result.andThen]; rw [Lib.cmp_eq]
 rfl
theorem bCompare_is (a1 a2 : Option Addr) (m1 m2 c1 c2 : Nat) (l1 l2 : List UInt8) (w : World) (h1 : BAt w a1 l1) (h2 : BAt w a2 l2) (e1 : m1 = l1.length) (e2 : m2 = l2.length) (n1 : a1 = none → m1 = 0) (n2 : a2 = none → m2 = 0) :
  Calls Tryz.prog 42 #[.slice a1 m1 c1, .slice a2 m2 c2] w fun e w' => e = .returned (.int .i64 (Lib.compareBytes l1 l2)) ∧ w = w' := by
 subst e1; subst e2; have R := hyd (run_compare (P := Tryz.prog) (c1 := c1) (c2 := c2) h1 h2 n1 n2); clear h1 h2 n1 n2; obtain ⟨m1, hm1⟩ : ∃ m, l1.length = m := ⟨_, rfl⟩; obtain ⟨m2, hm2⟩ : ∃ m, l2.length = m := ⟨_, rfl⟩; obtain ⟨z, hz⟩ : ∃ z, Lib.compareBytes l1 l2 = z := ⟨_, rfl⟩; rw [hm1, hm2, hz] at R; rw [hm1, hm2, hz]
 go_enter Tryz.func42, Tryz.ntmps42
 go_wp2; rw [run_callFunc_extern Tryz.func69 (by kernel_rfl) (by kernel_rfl) (by kernel_rfl) (e := Extern.BytealgCompare.compare) (by kernel_rfl), R.out]; simp only [Result.andThen]; rw [Oper.upon_value]; go_wp2; go_ret; exact ⟨rfl, rfl⟩
theorem cmp_lt : ∀ a b : List UInt8, decide (Lib.compareBytes a b < 0) = decide (a < b)
 | [], [] => by simp [Lib.compareBytes]
 | [], _ :: _ => by simp [Lib.compareBytes]
 | _ :: _, [] => by simp [Lib.compareBytes]
 | a :: as2, b :: bs => by
  unfold Lib.compareBytes
  by_cases h : a < b
  ·rw [if_pos h]
   simp [List.cons_lt_cons_iff, h]
  ·rw [if_neg h]
   by_cases h2 : b < a
   ·rw [if_pos h2]
    have hne : a ≠ b := fun e => h (by rw [e] at h2; exact absurd h2 (UInt8.lt_irrefl b))
    simp [List.cons_lt_cons_iff, h, hne]
   ·rw [if_neg h2, cmp_lt as2 bs]
    have he : a = b := UInt8.le_antisymm (UInt8.not_lt.1 h2) (UInt8.not_lt.1 h)
    simp [List.cons_lt_cons_iff, h, he]
def cfX (x y : B20) : Int := Lib.compareBytes x.1 y.1
theorem ltX (x y : B20) : ltOf cfX x y = decide (x.1 < y.1) := cmp_lt x.1 y.1
theorem swoX : SWO (ltOf cfX) where
 irrefl x := by rw [ltX]; simp [List.lt_irrefl]
 trans x y z h1 h2 := by
  rw [ltX] at *
  simp only [decide_eq_true_eq] at *
  exact List.lt_trans h1 h2
 ntrans x y z h1 h2 := by
  rw [ltX] at *
  simp only [decide_eq_false_iff_not] at *
  exact fun h => h2 (List.lt_of_le_of_lt (show y.1 ≤ x.1 from h1) h)
end Go.Proofs.YtnbcbiglkmdepaaGreatDoor
namespace Go.Proofs.YtnbcbiglkmdepaaGreatDoor
set_option maxRecDepth 20000
open Go.RowKit Go.Sort
theorem bat_arr {u : World} {g : Nat} {A : Array Value} (i : List UInt8) (e : (cellsD i).toArray = A) (h : u.heap[g]? = some (.cells A 24 (0, 0))) : BAt u (some ⟨g, 0, none⟩) i := by
 subst e; exact bat_of_range (lt_of_heap h) (row_cellsD h)
theorem cmpX_is (x y : B20) (w : World) :
  Calls Tryz.prog 41 #[.agg (cellsD x.1).toArray, .agg (cellsD y.1).toArray] w fun e w' => e = .returned (.int .i64 (cfX x y)) ∧ ∃ q os', w' = grow (w.drewN q) os' := by
 obtain ⟨A1, hA1⟩ : ∃ A, (cellsD x.1).toArray = A := ⟨_, rfl⟩; obtain ⟨A2, hA2⟩ : ∃ A, (cellsD y.1).toArray = A := ⟨_, rfl⟩; have b1 := (Below.refl w.heap.size w).alloc (Nat.le_refl _) (.cells A1 24); have b2 := b1.alloc b1.size (.cells A2 24); have h1 := ((Below.refl (w.alloc (.cells A1 24)).heap.size (w.alloc (.cells A1 24))).alloc (Nat.le_refl _) (.cells A2 24)).block w.heap.size (by simp); rw [heap_alloc_new w (.cells A1 24)] at h1; have h2 := heap_alloc_new (w.alloc (.cells A1 24)) (.cells A2 24)
 have hs1 : (w.alloc (.cells A1 24)).heap.size = w.heap.size + 1 := by simp
 rw [hs1] at h2
 have hs2 : ((w.alloc (.cells A1 24)).alloc (.cells A2 24)).heap.size = w.heap.size + 2 := by simp
 have G := hyd (show (w.alloc (.cells A1 24)).alloc (.cells A2 24) = grow w (#[.cells A1 24] ++ #[.cells A2 24]) by rw [alloc_eq_grow, alloc_eq_grow, grow_grow]); have B1 := bat_arr x.1 hA1 h1; have B2 := bat_arr y.1 hA2 h2; have C := hyd (fun (q : Nat) => bCompare_is (some ⟨w.heap.size, 0, none⟩) (some ⟨w.heap.size + 1, 0, none⟩) 20 20 20 20 x.1 y.1 (((w.alloc (.cells A1 24)).alloc (.cells A2 24)).drewN q) B1 B2 x.2.symm y.2.symm (fun e => by cases e) (fun e => by cases e))
 have sl1 := fun u => slice20_D u w.heap.size 0
 have sl2 := fun u => slice20_D u (w.heap.size + 1) 0
 rw [hA1, hA2]; clear b1 b2 h1 h2 hs1 B1 B2
 show Calls _ _ _ _ fun e w' => e = .returned (.int .i64 (Lib.compareBytes x.1 y.1)) ∧ _
 generalize Lib.compareBytes x.1 y.1 = z at C ⊢
 go_enter Tryz.func41, Tryz.ntmps41
 go_wp2_with fail
 obtain ⟨W2, hW2⟩ : ∃ W2, (w.alloc (.cells A1 24)).alloc (.cells A2 24) = W2 := ⟨_, rfl⟩; rw [hW2] at C G ⊢; clear hW2 hs2
 go_quiet ((go_at_call 42; exact Calls.quiet_of_same ((C.out _).mono fun _ _ h => ⟨h.1, h.2.symm⟩)))
 go_wp2; go_ret; exact ⟨rfl, nq, _, by rw [G.out]; rfl⟩
theorem cmpLaysX (blk off size : Nat) (w : World) : Go.Proofs.CmpLays Tryz.prog 41 #[] (fun x : B20 => cellsD x.1) 20 cfX blk off size w :=
 fun _ _ _ _ x y => cmpX_is x y _
end Go.Proofs.YtnbcbiglkmdepaaGreatDoor
namespace Go.Proofs.YtnbcbiglkmdepaaGreatDoor
set_option maxRecDepth 20000
open Go.RowKit Go.Maps
theorem wpListIn_store_all {F : Fence} {n : Nat} {ops : Array Oper} {rest : List Oper} {o : Oper} {a : Act} {w : World} {Q : Exit → Act → World → Prop} (hgd : o.guard = none) (ty : TypeId) (x y : Operand) (ho : o.op = .store ty x y) (g : Nat) (cells : Array Value)
  (hx : a.eval x = .pointer (some ⟨g, 0, none⟩)) (hy : a.eval y = .agg cells) (T : TypeId) (cur : Array Value) (hg : w.heap[g]? = some (.cells cur T (0, 0))) (hi : (Tryz.prog.info? ty).map (·.size) = some cells.size) (hfit : cells.size = cur.size)
  (h1 : cells.all (·.oneCell') = true)
  (h : ∀ w', w'.heap[g]? = some (.cells cells T (0, 0)) → w.grownBy w' (some g) → w'.heap.size = w.heap.size → wpListIn F n Tryz.prog ops Q rest (a.put o.dst undef) w') :
  wpListIn F n Tryz.prog ops Q (o :: rest) a w := by
 refine wpListIn_plain hgd fun K hK => ?_
 obtain ⟨ie, hie, hsz⟩ : ∃ ie, Tryz.prog.info? ty = some ie ∧ ie.size = cells.size := by
  cases e : Tryz.prog.info? ty with
  | none => rw [e] at hi; cases hi
  | some ie => rw [e] at hi; exact ⟨ie, rfl, Option.some.inj hi⟩
 have hst := run_storeCells_at Tryz.prog g 0 T cells.toList 0 cur w hg (by rw [Array.length_toList]; omega) (fun v hv => (Array.all_eq_true_iff_forall_mem.1 h1) v (by simpa using hv))
 have hrun : (storeVar ty ⟨g, 0, none⟩ (.agg cells)).run Tryz.prog w = .ok () (w.setRow g cells) := by
  have e : (cur.toList.take 0 ++ cells.toList ++ cur.toList.drop (0 + cells.size)).toArray = cells := by
   rw [List.take_zero, List.nil_append, Nat.zero_add, hfit, List.drop_of_length_le (by simp), List.append_nil]
  simp only [Nat.add_zero, Array.length_toList] at hst; rw [e] at hst
  simp [storeVar, sizeOf, typeInfo, hie, hsz, Value.cells, hst]
 unfold Oper.wpIn; refine ⟨by simp [Oper.about, ho], ?_⟩; rw [Oper.semAt_plain F _ _ (by rw [ho]; intro c hc; cases hc)]; unfold execOp; simp only [ho, hx, hy, Instr.storeAt, Instr.sureAddr, Sem.run_bind, Sem.run_pure, Result.andThen_ok]; rw [hrun]; have b := below_setRow (B := g) (Below.refl g w) (Nat.le_refl _) cells; refine hK _ _ (h _ (setRow_heap w g cur _ T (0, 0) hg) ⟨b.os, b.tape, b.output, b.size, fun k _ hk => ?_⟩ (by simp [World.setRow]))
 have hkg : ¬ g = k := fun e => hk (by rw [e])
 simp [World.setRow, Array.getElem?_modify, hkg]
theorem wpListIn_load_all {F : Fence} {n : Nat} {ops : Array Oper} {rest : List Oper} {o : Oper} {a : Act} {w : World} {Q : Exit → Act → World → Prop} (hgd : o.guard = none) (ty : TypeId) (x : Operand) (ho : o.op = .load ty x)
  (g : Nat) (A : Array Value) (T : TypeId) (fr : Nat × Nat) (hx : a.eval x = .pointer (some ⟨g, 0, none⟩)) (hg : w.heap[g]? = some (.cells A T fr)) (d : TypeDesc)
  (hu : Tryz.prog.underlying ty = some d) (hd : d.isRow = true) (hi : (Tryz.prog.info? ty).map (·.size) = some A.size)
  (h : wpListIn F n Tryz.prog ops Q rest (a.put o.dst (.agg A)) w) : wpListIn F n Tryz.prog ops Q (o :: rest) a w := by
 refine wpListIn_plain hgd fun K hK => ?_
 unfold Oper.wpIn; refine ⟨by simp [Oper.about, ho], ?_⟩; rw [Oper.semAt_plain F _ _ (by rw [ho]; intro c hc; cases hc)]; unfold execOp; simp only [ho, hx, Instr.loadAt, Instr.sureAddr, Sem.run_bind, Sem.run_pure, Result.andThen_ok]; rw [run_loadVar_row w g T ty A fr d hg hu (by cases d <;> first | rfl | cases hd) hi]; exact hK _ _ h
theorem mapM_some {α β : Type} {f : α → Option β} : ∀ {l : List α} {r : List β}, l.mapM f = some r → ∀ x ∈ l, ∃ y, f x = some y
 | [], _, _, x, hx => by cases hx
 | a :: l, r, h, x, hx => by
  rw [List.mapM_cons] at h
  cases ha : f a with
  | none => rw [ha] at h; cases h
  | some y =>
   cases hl : l.mapM f with
   | none => rw [ha, hl] at h; cases h
   | some ys =>
    rcases List.mem_cons.1 hx with rfl | hx
    ·exact ⟨y, ha⟩
    ·exact mapM_some hl x hx
theorem key_inv {v : Value} {l : Lit} (h : keyOf Tryz.prog 24 v = some l) : ∃ x : B20, v = encX x := by
 have hu : Tryz.prog.underlying 24 = some (.array 20 5) := Tryz.underlying24; have hu8 : Tryz.prog.underlying 5 = some (.int .u8) := Tryz.underlying5
 have c1 : Tryz.prog.cellsOf 24 = 20 := by kernel_rfl
 have c2 : Tryz.prog.cellsOf 5 = 1 := by kernel_rfl
 unfold keyOf at h; rw [hu] at h; simp only at h
 split at h
 ·rename_i hf
  have hf2 := (Bool.and_eq_true_iff.1 hf).2
  cases v with
  | agg cs =>
   obtain ⟨m, hm⟩ : ∃ m, Tryz.prog.types.size = m + 1 := Nat.exists_eq_succ_of_ne_zero (Nat.ne_of_gt (Nat.lt_of_le_of_lt (Nat.zero_le _) rowX)); rw [hm] at h
   cases hk : Tryz.prog.keyLits (m + 1 + 1) 24 (Value.agg cs).cells.toList with
   | none => rw [hk] at h; cases h
   | some L =>
    clear h; have hc : (Value.agg cs).cells.toList = cs.toList := rfl; rw [hc, Program.keyLits.eq_def] at hk; simp only [hu, c1, c2] at hk
    split at hk
    ·rename_i hl
     cases hmm : (List.range 20).mapM (fun i => Tryz.prog.keyLits (m + 1) 5 ((cs.toList.drop (i * 1)).take 1)) with
     | none => rw [hmm] at hk; cases hk
     | some r =>
      have el : ∀ k (h : k < cs.toList.length), ∃ b : UInt8, cs.toList[k] = .int .u8 (b.toNat : Int) := by
       intro k hkl; obtain ⟨y, hy⟩ := mapM_some hmm k (List.mem_range.2 (by omega))
       have e1 : (cs.toList.drop (k * 1)).take 1 = [cs.toList[k]] := by
        rw [Nat.mul_one, List.drop_eq_getElem_cons hkl, List.take_succ_cons, List.take_zero]
       rw [e1, Program.keyLits.eq_def] at hy; simp only [hu8] at hy
       cases hv : cs.toList[k] with
       | int q z =>
        rw [hv] at hy; simp only at hy
        split at hy
        ·rename_i hq
         obtain ⟨rfl, hw⟩ := hq; have e1 : IntKind.u8.min = 0 := rfl; have e2 : IntKind.u8.max = 255 := rfl
         have hb : 0 ≤ z ∧ z ≤ 255 := by simpa [Lit.wf, e1, e2] using hw
         refine ⟨UInt8.ofNat z.toNat, ?_⟩; rw [UInt8.toNat_ofNat']
         congr 1
         omega
        ·cases hy
       | _ => rw [hv] at hy; simp at hy
      have hall : ∃ i : List UInt8, cs.toList = cellsD i := by
       refine ⟨cs.toList.map (fun v => match v with | .int _ z => UInt8.ofNat z.toNat | _ => 0), ?_⟩; unfold cellsD
       apply List.ext_getElem
       ·simp [Lib.byteCells]
       ·intro k h1 h2
        obtain ⟨b, hb⟩ := el k h1; simp only [Lib.byteCells, List.getElem_map, hb]
        congr 1
        have := b.toNat_lt; rw [UInt8.toNat_ofNat']
        omega
      obtain ⟨i, hi⟩ := hall
      have h20 : i.length = 20 := by
       have := congrArg List.length hi; rw [hl] at this
       simpa [cellsD, Lib.byteCells] using this.symm
      refine ⟨⟨i, h20⟩, ?_⟩; unfold encX arrD
      congr 1
      rw [← hi]
    ·cases hk
  | _ => simp [Value.formed, hu] at hf2
 ·cases h
end Go.Proofs.YtnbcbiglkmdepaaGreatDoor
