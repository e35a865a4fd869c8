/-
  Texts that belong together, one behind the other.
-/
import Derived.Test.YtnbcbiglkmdepaaGreatDoorFu19
import Derived.Test.YtnbcbiglkmdepaaGreatDoorFu06
import Derived.Test.YtnbcbiglkmdepaaGreatDoorFu07
import Derived.Test.YtnbcbiglkmdepaaGreatDoorFu01
import Derived.Test.YtnbcbiglkmdepaaGreatDoorFu03
import Derived.Test.YtnbcbiglkmdepaaGreatDoorFu18
import Derived.Test.YtnbcbiglkmdepaaGreatDoorFu17
import Derived.Lib.SmallJoins
import Derived.Test.YtnbcbiglkmdepaaGreatDoorFu05
import Derived.Great.BuildSlice
import Derived.Great.FillDense
import Derived.Deep.RegionHeld
import Derived.Test.YtnbcbiglkmdepaaGreatDoorFu04
set_option maxHeartbeats 64000000
set_option linter.unusedVariables false
set_option linter.unusedSimpArgs false
open Go.Lib renaming hid → hyd
open List renaming getElem_toArray → lgA, getElem_cons_succ → lgS, getElem_cons_zero → lgZ
namespace Go.Proofs.YtnbcbiglkmdepaaGreatDoor
set_option maxRecDepth 20000
open Go.RowKit
theorem idv_cells (l : List UInt8) : ∃ arr, idv l = .agg arr ∧ arr = (Lib.byteCells l).toArray := ⟨_, rfl, rfl⟩
def sumO (k : Int) (l : List UInt8) : List UInt8 := if (printO k l).2 = 0 then sumL (printO k l).1 else List.replicate 20 0
theorem printO_len (k : Int) (l : List UInt8) (h : (printO k l).2 = 0) : (printO k l).1.length ≤ 1000000 := by
 by_cases hk : kindO k
 ·by_cases hl : l.length ≤ 65536
  ·rw [printO_ok k l hk hl, objO_length]
   have h1 := wordO_len k; have h2 := numO_le l.length 4 (by omega)
   omega
  ·rw [printO_limit k l hk (by omega)] at h
   exact absurd h (by decide)
 ·rw [printO_kind k l hk] at h
  exact absurd h (by decide)
set_option maxRecDepth 100000 in
theorem roId_is (k : Int) (a : Option Addr) (n c : Nat) (l : List UInt8) (w : World) (hn : n = l.length) (hb : BAt w a l) (hno : a = none → n = 0 ∧ c = 0) (hc : n ≤ c) (hm : c ≤ maxLen) :
  Calls Tryz.prog 21 #[.agg #[.int .i64 k, .slice a n c]] w fun e w' => e = .returned (idv (sumO k l)) ∧ Below w.heap.size w w' := by
 obtain ⟨z, hz, hze⟩ := z29; have hzv := zero_arr hz
 have hzs : z.size = 20 := by rw [hze]; simp
 have b00 := (Below.refl w.heap.size w).alloc (Nat.le_refl _) (.cells #[.int .i64 k, .slice a n c] 34); have b0 := b00.alloc b00.size (.cells z 24)
 have r0 : ((w.alloc (.cells #[.int .i64 k, .slice a n c] 34)).alloc (.cells z 24)).heap[w.heap.size + 1]? = some (.cells z 24 (0, 0)) := by
  rw [show w.heap.size + 1 = (w.alloc (.cells #[.int .i64 k, .slice a n c] 34)).heap.size by simp]; exact heap_alloc_new _ _
 have CP := roPrint_any k a n c l _ hn (hb.keep b0) hno hc hm; have PL := printO_len k l; unfold sumO
 by_cases he : (printO k l).2 = 0
 ·rw [if_pos he]
  rw [he] at CP; have pl := PL he; generalize (printO k l).1 = m at CP pl ⊢; have HB0 := hyd b0; have HR0 := hyd r0; have HZS := hyd hzs; clear b00 b0 r0 PL he hn hb hno hz hze hzs
  go_enter Tryz.func21, Tryz.ntmps21
  go_wp2_with fail
  refine CP.mono ?_; rintro e w3 ⟨v3, rfl, ⟨qa, qc, rfl, hqb, hqn, hqc, hqm⟩, hb3⟩; have r3 := (hb3.block (w.heap.size + 1) (Array.getElem?_eq_some_iff.1 HR0.out).1).trans HR0.out; have b3 := HB0.out.trans (hb3.mono HB0.out.size); have hlt3 : w.heap.size + 1 < w3.heap.size := (Array.getElem?_eq_some_iff.1 r3).1; obtain ⟨arr, hia, haa⟩ := idv_cells (sumL m); have C1 := rSum_any w3 qa qc m pl hqb hqn; rw [hia] at C1
  have hasz : arr.size = 20 := by rw [haa]; simp [bc_len, sumL, digest_len]
  have hall : arr.all (·.oneCell') = true := by rw [haa]; exact bc_all _
  have HASZ := hyd hasz; have HALL := hyd hall; have HB3 := hyd b3; have HR3 := hyd r3; have HIA := hyd hia; have HLT := hyd hlt3; obtain ⟨ml, hml⟩ : ∃ ml, m.length = ml := ⟨_, rfl⟩; rw [hml] at C1; rw [hml]; clear CP hqb hqn hqc hqm hb3 r3 b3 hasz hall hia haa hlt3 hml pl
  go_wp2_with fail
  refine C1.mono ?_; rintro e w4 ⟨rfl, hb4⟩; have HR4 := hyd ((hb4.block (w.heap.size + 1) HLT.out).trans HR3.out); have HB4 := hyd (HB3.out.trans (hb4.mono HB3.out.size)); clear C1 hb4
  go_wp2_with (first
   | (with_reducible refine wpList_store_row rfl 24 (.tmp 2) (.tmp 14) rfl (w.heap.size + 1) arr rfl rfl 24 z ?sg ?si ?so ?s1 ?_)
   | fail)
  case sg => exact HR4.out
  case si => rw [info29, HASZ.out]
  case so => rw [HZS.out, HASZ.out]
  case s1 => exact HALL.out
  refine bodyPost_ret (results_cell_row Tryz.results21 _ _ (w.heap.size + 1) 24 arr (0, 0) _ rfl (setRow_heap w4 (w.heap.size + 1) z arr _ (0, 0) HR4.out) Tryz.underlying24 rfl (by rw [info29, HASZ.out])) rfl ⟨by rw [HIA.out], below_setRow HB4.out (Nat.le_succ _) arr⟩
 ·rw [if_neg he]
  have hzi : idv (List.replicate 20 0) = .agg z := by rw [hze]; rfl
  rw [hzi]; obtain ⟨x, hx⟩ : ∃ x, (printO k l).2 = x := ⟨_, rfl⟩; rw [hx] at he CP
  have hxb : (x != 0) = true := by simp [he]
  have hall : z.all (·.oneCell') = true := by rw [hze]; exact bc_all (List.replicate 20 0)
  have HB0 := hyd b0; have HR0 := hyd r0; have HZS := hyd hzs; have HALL := hyd hall; clear b00 b0 r0 PL hn hb hno hz hze hzs hzi hx hall
  go_enter Tryz.func21, Tryz.ntmps21
  go_wp2_with fail
  refine CP.mono ?_; rintro e w3 ⟨v3, rfl, ⟨qa, qc, rfl, hqb, hqn, hqc, hqm⟩, hb3⟩; have HR3 := hyd ((hb3.block (w.heap.size + 1) (Array.getElem?_eq_some_iff.1 HR0.out).1).trans HR0.out); have HB3 := hyd (HB0.out.trans (hb3.mono HB0.out.size)); clear CP hqb hqn hqc hqm hb3
  go_wp2_with (first
   | (with_reducible refine wpList_store_row rfl 24 (.tmp 2) (.tmp 12) rfl (w.heap.size + 1) z rfl rfl 24 z ?sg ?si ?so ?s1 ?_)
   | fail)
  case sg => exact HR3.out
  case si => rw [info29, HZS.out]
  case so => rfl
  case s1 => exact HALL.out
  refine bodyPost_ret (results_cell_row Tryz.results21 _ _ (w.heap.size + 1) 24 z (0, 0) _ rfl (setRow_heap w3 (w.heap.size + 1) z z _ (0, 0) HR3.out) Tryz.underlying24 rfl (by rw [info29, HZS.out])) rfl ⟨rfl, below_setRow HB3.out (Nat.le_succ _) z⟩
theorem putS_bad {sum : Int → List UInt8 → List UInt8} {most : Nat} {l : List Cel} {k : Int} {b : List UInt8} (h : (printO k b).2 ≠ 0) : putS sum most l k b = (l, idZ, (printO k b).2) := if_neg h
theorem rPut_bad {w : World} {g : Nat} (k : Int) (v : Value) (b : List UInt8) (hv : Red w v b) (he : (printO k b).2 ≠ 0) :
  Calls Tryz.prog 8 #[.pointer (some ⟨g, 0, none⟩), .agg #[.int .i64 k, v]] w fun e w' => e = .returned (.tuple #[.agg (arrD idZ), .int .i64 (printO k b).2]) ∧ Below w.heap.size w w' := by
 obtain ⟨a, c, rfl, hb, hno, hc, hm⟩ := hv; obtain ⟨n, hn⟩ : ∃ n, b.length = n := ⟨_, rfl⟩; rw [hn] at hno hc ⊢; obtain ⟨z, hz0, hzs, hzv, hzb, hz1⟩ := zId_any; have b1 := (Below.refl w.heap.size w).alloc (Nat.le_refl _) (.cells #[.int .i64 k, .slice a n c] 34); have b2 := b1.alloc b1.size (.cells z 24)
 have hs1 : (w.alloc (.cells #[.int .i64 k, .slice a n c] 34)).heap.size = w.heap.size + 1 := by simp
 have h02 := heap_alloc_new (w.alloc (.cells #[.int .i64 k, .slice a n c] 34)) (.cells z 24); rw [hs1] at h02; have H2 := hyd h02; have B2 := hyd b2; have ZB := hyd hzb; have Z1 := hyd hz1; have Z0 := hyd hz0; have ZS := hyd hzs; have IZ := hyd (show (Tryz.prog.info? 24).map (·.size) = some z.size from by rw [hzs]; exact infoD_n); have CP := hyd (fun u (hu : Below w.heap.size w u) => roPrint_any k a n c b u hn.symm (hb.keep hu) hno hc hm); obtain ⟨er, her⟩ : ∃ er, (printO k b).2 = er := ⟨_, rfl⟩; rw [her] at CP he ⊢
 have hxb : (er != 0) = true := by simp [he]
 rw [← hz0]; clear b1 b2 h02 hs1 hb hno hc hm hz0 hzs hzb hz1 her hn
 go_enter Tryz.func8, Tryz.ntmps8
 go_wp2_with fail
 refine (CP.out _ B2.out).mono ?_; rintro e w3 ⟨v3, rfl, hr3, hb3⟩; have H3 := hyd ((hb3.block (w.heap.size + 1) (lt_of_heap H2.out)).trans H2.out); have HB3 := hyd (B2.out.trans (hb3.mono B2.out.size)); clear hb3 CP hr3
 go_wp2_with (first
  | (refine wpList_build_none rfl 24 rfl z ZB.out ?_)
  | (with_reducible refine wpList_store_all rfl 24 (.tmp 4) (.tmp 19) rfl (w.heap.size + 1) z rfl rfl 24 z H3.out IZ.out rfl Z1.out ?_)
  | fail)
 intro w5 r5 off5 sz5; have HB5 := hyd (HB3.out.trans (off5.below (Nat.le_succ _) HB3.out.size)); go_wp2; exact bodyPost_ret (results_id9 Tryz.results8 _ _ (w.heap.size + 1) z (0, 0) _ rfl rfl r5 ZS.out) rfl ⟨rfl, HB5.out⟩
def pickI : Bool → List UInt8 → List UInt8
 | true, i => i
 | false, _ => idZ
def pickE : Bool → Int
 | true => 0
 | false => 7
theorem putS_there {most : Nat} {l : List Cel} {k : Int} {b : List UInt8} (he : (printO k b).2 = 0) {x : Cel} (hx : getS l (sumO k b) = some x) :
  putS sumO most l k b = (l, pickI (x.kind == k && x.body == b) (sumO k b), pickE (x.kind == k && x.body == b)) := by
 unfold putS; rw [if_pos he, hx]
 by_cases h : x.kind = k ∧ x.body = b
 ·have e : (x.kind == k && x.body == b) = true := by simpa using h
  rw [e]; exact if_pos h
 ·have e : (x.kind == k && x.body == b) = false := by simpa using h
  rw [e]; exact if_neg h
theorem rPut_there {S : Nat → Prop} {w : World} {g : Nat} {L : List Cel} (h : StoreAt S w g L) (k : Int) (v : Value) (b : List UInt8) (hv : Red w v b) (he : (printO k b).2 = 0) (hm : L.length ≤ 1000000) (x : Cel) (hx : getS L (sumO k b) = some x) :
  Calls Tryz.prog 8 #[.pointer (some ⟨g, 0, none⟩), .agg #[.int .i64 k, v]] w fun e w' => e = .returned (.tuple #[.agg (arrD (pickI (x.kind == k && x.body == b) (sumO k b))), .int .i64 (pickE (x.kind == k && x.body == b))]) ∧ Below w.heap.size w w' := by
 have hvr := hv; obtain ⟨a, c, rfl, hb, hno, hc, hmx⟩ := hv; obtain ⟨n, hn⟩ : ∃ n, b.length = n := ⟨_, rfl⟩; rw [hn] at hno hc hvr ⊢; obtain ⟨z, hz0, hzs, hzv, hzb, hz1⟩ := zId_any; have b1 := (Below.refl w.heap.size w).alloc (Nat.le_refl _) (.cells #[.int .i64 k, .slice a n c] 34); have b2 := b1.alloc b1.size (.cells z 24)
 have hs1 : (w.alloc (.cells #[.int .i64 k, .slice a n c] 34)).heap.size = w.heap.size + 1 := by simp
 have h02 := heap_alloc_new (w.alloc (.cells #[.int .i64 k, .slice a n c] 34)) (.cells z 24); have h01 := (((Below.refl (w.alloc (.cells #[.int .i64 k, .slice a n c] 34)).heap.size (w.alloc (.cells #[.int .i64 k, .slice a n c] 34))).alloc (Nat.le_refl _) (.cells z 24)).block w.heap.size (by simp)).trans (heap_alloc_new w _); rw [hs1] at h02; have H1 := hyd h01; have H2 := hyd h02; have B2 := hyd b2; have ZB := hyd hzb; have Z1 := hyd hz1; have Z0 := hyd hz0; have ZS := hyd hzs; have IZ := hyd (show (Tryz.prog.info? 24).map (·.size) = some z.size from by rw [hzs]; exact infoD_n); have CP := hyd (fun u (hu : Below w.heap.size w u) => roPrint_any k a n c b u hn.symm (hb.keep hu) hno hc hmx); have CI := hyd (fun u (hu : Below w.heap.size w u) => roId_is k a n c b u hn.symm (hb.keep hu) hno hc hmx)
 have sl : (sumO k b).length = 20 := by
  unfold sumO; rw [if_pos he]
  simp [sumL, digest_len]
 have CT := hyd (fun u (hu : Below w.heap.size w u) => rAt_is (h.below hu) (sumO k b) sl hm); rw [hx] at CT; have TH := hyd (h.there hx); obtain ⟨I, hI⟩ : ∃ I, arrD (sumO k b) = I := ⟨_, rfl⟩; have HI := hyd hI; have IS := hyd (show I.size = 20 by rw [← hI]; exact arrD_size _ sl); have IO := hyd (show I.all (·.oneCell') = true by rw [← hI]; exact arrD_one _); have II := hyd (show (Tryz.prog.info? 24).map (·.size) = some I.size from by rw [IS.out]; exact infoD_n); have RV := hyd (fun u (hu : Below w.heap.size w u) => (⟨a, c, by rw [hn], hb.keep hu, by rw [hn]; exact hno, by rw [hn]; exact hc, hmx⟩ : Red u (.slice a n c) b)); have LB := hyd (show (Tryz.prog.info? 34).map (·.size) = some (#[.int .i64 k, .slice a n c] : Array Value).size from infoOb); rw [he] at CP; rw [hI] at CT
 have ei : idv (sumO k b) = .agg I := by rw [idv_arrD, hI]
 rw [ei] at CI; obtain ⟨q, hq⟩ : ∃ q, atS L (sumO k b) = q := ⟨_, rfl⟩; rw [hq] at CT TH; clear b1 b2 h01 h02 hs1 hb hno hc hmx hz0 hzs hzb hz1 hn h hq hI ei sl hvr
 go_enter Tryz.func8, Tryz.ntmps8
 go_wp2_with fail
 refine (CP.out _ B2.out).mono ?_; rintro e w3 ⟨v3, rfl, hr3, hb3⟩; have H31 := hyd ((hb3.block w.heap.size (lt_of_heap H1.out)).trans H1.out); have H32 := hyd ((hb3.block (w.heap.size + 1) (lt_of_heap H2.out)).trans H2.out); have HB3 := hyd (B2.out.trans (hb3.mono B2.out.size)); clear hb3 CP hr3; obtain ⟨y0, y1⟩ := cells2 H31.out
 go_wp2_with fail
 refine (CI.out _ HB3.out).mono ?_; rintro e w4 ⟨rfl, hb4⟩; have H41 := hyd ((hb4.block w.heap.size (lt_of_heap H31.out)).trans H31.out); have H42 := hyd ((hb4.block (w.heap.size + 1) (lt_of_heap H32.out)).trans H32.out); have HB4 := hyd (HB3.out.trans (hb4.mono HB3.out.size)); clear hb4 CI y0 y1
 go_wp2_with (first
  | (with_reducible refine wpList_store_all rfl 24 (.tmp 8) (.tmp 22) rfl w4.heap.size I rfl rfl 24 z (heap_alloc_new w4 _) II.out (IS.out.trans ZS.out.symm) IO.out ?_)
  | fail)
 intro w5 r5 off5 sz5; have b45 : Below w4.heap.size w4 w5 := ((Below.refl w4.heap.size w4).alloc (Nat.le_refl _) (.cells z 24)).trans (off5.below (Nat.le_refl _) (by simp)); have H51 := hyd ((b45.block w.heap.size (lt_of_heap H41.out)).trans H41.out); have H52 := hyd ((b45.block (w.heap.size + 1) (lt_of_heap H42.out)).trans H42.out); have HB5 := hyd (HB4.out.trans (b45.mono HB4.out.size)); have R5 := hyd r5; clear b45 r5 off5 sz5
 go_wp2_with (first
  | (with_reducible refine wpList_load_all 24 (.tmp 8) rfl (by kernel_rfl) w4.heap.size I 24 (0, 0) rfl R5.out _ Tryz.underlying24 rfl II.out ?_)
  | fail)
 refine (CT.out _ HB5.out).mono ?_; rintro e w6 ⟨rfl, hb6⟩; have H61 := hyd ((hb6.block w.heap.size (lt_of_heap H51.out)).trans H51.out); have H62 := hyd ((hb6.block (w.heap.size + 1) (lt_of_heap H52.out)).trans H52.out); have R6 := hyd ((hb6.block w4.heap.size (lt_of_heap R5.out)).trans R5.out); have HB6 := hyd (HB5.out.trans (hb6.mono HB5.out.size)); clear hb6 CT; obtain ⟨o', o, m, c', va, hblk, hlt, hle, hob, hbody, a', n', c'', rfl⟩ := TH.out
 have hW : ∀ u, Below w6.heap.size w6 u → Below w.heap.size w u := fun u hu => HB6.out.trans (hu.mono HB6.out.size)
 have PG := hyd (fun u (hu : Below w6.heap.size w6 u) => (by
  rw [Lib.cell_of_heap (((hW u hu).block g (lt_of_heap hblk)).trans hblk)]
  rfl : u.cell? ⟨g, 0, none⟩ = some (.slice (some ⟨o', o, none⟩) m c')))
 have RO := hyd (fun u (hu : Below w6.heap.size w6 u) => (show u.rangeAt o' (o + q * 22 + 20) [.int .i64 x.kind, .slice a' n' c''] from fun j v hv => ((hW u hu).cell (World.block_lt_of_cell? w _ (hob j v hv))).trans (hob j v hv)))
 have PO := hyd (fun u (hu : Below w6.heap.size w6 u) => (show u.rangeAt w.heap.size 0 [.int .i64 k, .slice a n c] from fun j v hv => by
  have hq := (hu.block w.heap.size (lt_of_heap H61.out)).trans H61.out; rw [Nat.zero_add, Lib.cell_of_heap hq, ← hv]
  simp))
 have LO1 := hyd (show (Tryz.prog.info? 34).map (·.size) = some ([.int .i64 x.kind, .slice a' n' c''] : List Value).length from infoOb); have LO2 := hyd (show (Tryz.prog.info? 34).map (·.size) = some ([.int .i64 k, .slice a n c] : List Value).length from infoOb); have CO := hyd (fun u (hu : Below w6.heap.size w6 u) => Object_any x.kind k (.slice a' n' c'') (.slice a n c) x.body b u (hbody.keep (Stays.of (hW u hu))).red (RV.out u (hW u hu))); obtain ⟨r, hr⟩ : ∃ r, (x.kind == k && x.body == b) = r := ⟨_, rfl⟩; rw [hr] at CO; have HRR := hyd hr; obtain ⟨kd, hkd⟩ : ∃ kd, x.kind = kd := ⟨_, rfl⟩; have HKD := hyd hkd; rw [hkd] at CO RO LO1
 have g1 : (q : Int) < (m : Int) := by omega
 have g2 : (q : Int) ≤ (c' : Int) := by omega
 clear hblk hob hbody hr hkd hW TH RV
 go_wp2_with fail
 refine rgB w6 (fun hd => ?_); refine tkW 0 rfl hd ?_; refine tkW 1 rfl hd ?_; refine tkW 2 rfl hd ?_; refine tkV 3 rfl (.slice (some ⟨o', o, none⟩) m c') ?py3x hd ?_
 case py3x => intro u hu; have q := PG.out u hu; go_simp
 refine tkW 4 rfl hd ?_; refine tkW 5 rfl hd ?_; refine tkW 6 rfl hd ?_; refine tkH 7 rfl (yieldsIf_load_mid (by kernel_rfl) 34 (.tmp 36) (by kernel_rfl) o' (o + q * 22 + 20) (by kernel_rfl) [.int .i64 kd, .slice a' n' c''] _ (fun u hu => RO.out u hu) Tryz.underlying34 rfl LO1.out) hd ?_; refine tkH 8 rfl (yieldsIf_load_mid (by kernel_rfl) 34 (.tmp 3) (by kernel_rfl) w.heap.size 0 (by kernel_rfl) [.int .i64 k, .slice a n c] _ (fun u hu => PO.out u hu) Tryz.underlying34 rfl LO2.out) hd ?_; refine rdH 9 rfl (fun K hK => ?_)
 go_simp
 refine (CO.out _ hd).mono ?_; rintro e u1 ⟨rfl, hI⟩; have hH := hd.trans (hI.mono hd.size); clear hd hI; refine hK.out _ _ hH (fun hd => ?_); clear hK K
 try simp only [Act.put, lsA, lsZ, lsS]
 refine tkW 10 rfl hd ?_
 try simp only [Act.put, lgA, lgS, lgZ, lsA, lsZ, lsS]
 refine wpAnyH_done (by kernel_rfl) ?_ _; have R7 := hyd ((hd.block w4.heap.size (lt_of_heap R6.out)).trans R6.out); have H72 := hyd ((hd.block (w.heap.size + 1) (lt_of_heap H62.out)).trans H62.out); have HB7 := hyd (HB6.out.trans (hd.mono HB6.out.size)); clear hd
 cases r with
 | true =>
  go_wp2_with (first
   | (with_reducible refine wpList_load_all 24 (.tmp 8) rfl (by kernel_rfl) w4.heap.size I 24 (0, 0) rfl R7.out _ Tryz.underlying24 rfl II.out ?_)
   | (with_reducible refine wpList_store_all rfl 24 (.tmp 4) (.tmp 42) rfl (w.heap.size + 1) I rfl rfl 24 z H72.out II.out (IS.out.trans ZS.out.symm) IO.out ?_)
   | fail)
  intro w8 r8 off8 sz8; have HB8 := hyd (HB7.out.trans (off8.below (Nat.le_succ _) HB7.out.size)); go_wp2; exact bodyPost_ret (results_id9 Tryz.results8 _ _ (w.heap.size + 1) I (0, 0) _ rfl rfl r8 IS.out) rfl ⟨by rw [HRR.out, ← HI.out]; rfl, HB8.out⟩
 | false =>
  go_wp2_with (first
   | (refine wpList_build_none rfl 24 rfl z ZB.out ?_)
   | (with_reducible refine wpList_store_all rfl 24 (.tmp 4) (.tmp 41) rfl (w.heap.size + 1) z rfl rfl 24 z H72.out IZ.out rfl Z1.out ?_)
   | fail)
  intro w8 r8 off8 sz8; have HB8 := hyd (HB7.out.trans (off8.below (Nat.le_succ _) HB7.out.size)); go_wp2; exact bodyPost_ret (results_id9 Tryz.results8 _ _ (w.heap.size + 1) z (0, 0) _ rfl rfl r8 ZS.out) rfl ⟨by rw [HRR.out, Z0.out]; rfl, HB8.out⟩
theorem putS_full {most : Nat} {l : List Cel} {k : Int} {b : List UInt8} (he : (printO k b).2 = 0) (hx : getS l (sumO k b) = none) (hm : most ≤ l.length) : putS sumO most l k b = (l, idZ, 5) := by
 unfold putS; rw [if_pos he, hx]; exact if_pos hm
theorem rPut_full {S : Nat → Prop} {w : World} {g : Nat} {L : List Cel} (h : StoreAt S w g L) (k : Int) (v : Value) (b : List UInt8) (hv : Red w v b) (he : (printO k b).2 = 0) (hm : L.length ≤ 1000000) (hf : 5000 ≤ L.length) (hx : getS L (sumO k b) = none) :
  Calls Tryz.prog 8 #[.pointer (some ⟨g, 0, none⟩), .agg #[.int .i64 k, v]] w fun e w' => e = .returned (.tuple #[.agg (arrD idZ), .int .i64 5]) ∧ Below w.heap.size w w' := by
 have hvr := hv; obtain ⟨a, c, rfl, hb, hno, hc, hmx⟩ := hv; obtain ⟨n, hn⟩ : ∃ n, b.length = n := ⟨_, rfl⟩; rw [hn] at hno hc hvr ⊢; obtain ⟨z, hz0, hzs, hzv, hzb, hz1⟩ := zId_any; have b1 := (Below.refl w.heap.size w).alloc (Nat.le_refl _) (.cells #[.int .i64 k, .slice a n c] 34); have b2 := b1.alloc b1.size (.cells z 24)
 have hs1 : (w.alloc (.cells #[.int .i64 k, .slice a n c] 34)).heap.size = w.heap.size + 1 := by simp
 have h02 := heap_alloc_new (w.alloc (.cells #[.int .i64 k, .slice a n c] 34)) (.cells z 24); have h01 := (((Below.refl (w.alloc (.cells #[.int .i64 k, .slice a n c] 34)).heap.size (w.alloc (.cells #[.int .i64 k, .slice a n c] 34))).alloc (Nat.le_refl _) (.cells z 24)).block w.heap.size (by simp)).trans (heap_alloc_new w _); rw [hs1] at h02; have H1 := hyd h01; have H2 := hyd h02; have B2 := hyd b2; have ZB := hyd hzb; have Z1 := hyd hz1; have Z0 := hyd hz0; have ZS := hyd hzs; have IZ := hyd (show (Tryz.prog.info? 24).map (·.size) = some z.size from by rw [hzs]; exact infoD_n); have CP := hyd (fun u (hu : Below w.heap.size w u) => roPrint_any k a n c b u hn.symm (hb.keep hu) hno hc hmx); have CI := hyd (fun u (hu : Below w.heap.size w u) => roId_is k a n c b u hn.symm (hb.keep hu) hno hc hmx)
 have sl : (sumO k b).length = 20 := by
  unfold sumO; rw [if_pos he]
  simp [sumL, digest_len]
 have CT := hyd (fun u (hu : Below w.heap.size w u) => rAt_is (h.below hu) (sumO k b) sl hm); rw [hx] at CT
 have KG := hyd (by
  obtain ⟨hg, E, a0, c0, hE, hblk, hcels, hnone, hle, hmax⟩ := h
  exact ⟨a0, c0, fun u hu => (by
   rw [Lib.cell_of_heap ((hu.block g (lt_of_heap hblk)).trans hblk)]
   rfl)⟩ : ∃ a0 c0, ∀ u, Below w.heap.size w u → u.cell? ⟨g, 0, none⟩ = some (.slice a0 L.length c0))
 obtain ⟨I, hI⟩ : ∃ I, arrD (sumO k b) = I := ⟨_, rfl⟩; have HI := hyd hI; have IS := hyd (show I.size = 20 by rw [← hI]; exact arrD_size _ sl); have IO := hyd (show I.all (·.oneCell') = true by rw [← hI]; exact arrD_one _); have II := hyd (show (Tryz.prog.info? 24).map (·.size) = some I.size from by rw [IS.out]; exact infoD_n); have RV := hyd (fun u (hu : Below w.heap.size w u) => (⟨a, c, by rw [hn], hb.keep hu, by rw [hn]; exact hno, by rw [hn]; exact hc, hmx⟩ : Red u (.slice a n c) b)); have LB := hyd (show (Tryz.prog.info? 34).map (·.size) = some (#[.int .i64 k, .slice a n c] : Array Value).size from infoOb); rw [he] at CP; rw [hI] at CT
 have ei : idv (sumO k b) = .agg I := by rw [idv_arrD, hI]
 rw [ei] at CI; obtain ⟨q, hq⟩ : ∃ q, atS L (sumO k b) = q := ⟨_, rfl⟩; rw [hq] at CT; clear b1 b2 h01 h02 hs1 hb hno hc hmx hz0 hzs hzb hz1 hn h hq hI ei sl hvr hx
 go_enter Tryz.func8, Tryz.ntmps8
 go_wp2_with fail
 refine (CP.out _ B2.out).mono ?_; rintro e w3 ⟨v3, rfl, hr3, hb3⟩; have H31 := hyd ((hb3.block w.heap.size (lt_of_heap H1.out)).trans H1.out); have H32 := hyd ((hb3.block (w.heap.size + 1) (lt_of_heap H2.out)).trans H2.out); have HB3 := hyd (B2.out.trans (hb3.mono B2.out.size)); clear hb3 CP hr3; obtain ⟨y0, y1⟩ := cells2 H31.out
 go_wp2_with fail
 refine (CI.out _ HB3.out).mono ?_; rintro e w4 ⟨rfl, hb4⟩; have H41 := hyd ((hb4.block w.heap.size (lt_of_heap H31.out)).trans H31.out); have H42 := hyd ((hb4.block (w.heap.size + 1) (lt_of_heap H32.out)).trans H32.out); have HB4 := hyd (HB3.out.trans (hb4.mono HB3.out.size)); clear hb4 CI y0 y1
 go_wp2_with (first
  | (with_reducible refine wpList_store_all rfl 24 (.tmp 8) (.tmp 22) rfl w4.heap.size I rfl rfl 24 z (heap_alloc_new w4 _) II.out (IS.out.trans ZS.out.symm) IO.out ?_)
  | fail)
 intro w5 r5 off5 sz5; have b45 : Below w4.heap.size w4 w5 := ((Below.refl w4.heap.size w4).alloc (Nat.le_refl _) (.cells z 24)).trans (off5.below (Nat.le_refl _) (by simp)); have H51 := hyd ((b45.block w.heap.size (lt_of_heap H41.out)).trans H41.out); have H52 := hyd ((b45.block (w.heap.size + 1) (lt_of_heap H42.out)).trans H42.out); have HB5 := hyd (HB4.out.trans (b45.mono HB4.out.size)); have R5 := hyd r5; clear b45 r5 off5 sz5
 go_wp2_with (first
  | (with_reducible refine wpList_load_all 24 (.tmp 8) rfl (by kernel_rfl) w4.heap.size I 24 (0, 0) rfl R5.out _ Tryz.underlying24 rfl II.out ?_)
  | fail)
 refine (CT.out _ HB5.out).mono ?_; rintro e w6 ⟨rfl, hb6⟩; have H61 := hyd ((hb6.block w.heap.size (lt_of_heap H51.out)).trans H51.out); have H62 := hyd ((hb6.block (w.heap.size + 1) (lt_of_heap H52.out)).trans H52.out); have R6 := hyd ((hb6.block w4.heap.size (lt_of_heap R5.out)).trans R5.out); have HB6 := hyd (HB5.out.trans (hb6.mono HB5.out.size)); clear hb6 CT; obtain ⟨a0, c0, hpg⟩ := KG.out; have pg := hpg _ HB6.out
 have g1 : (L.length : Int) ≥ 5000 := by omega
 obtain ⟨m, hm2⟩ : ∃ m, L.length = m := ⟨_, rfl⟩; rw [hm2] at pg g1; clear hm2 hpg
 go_wp2_with (first
  | (refine wpList_build_none rfl 24 rfl z ZB.out ?_)
  | (with_reducible refine wpList_store_all rfl 24 (.tmp 4) (.tmp 49) rfl (w.heap.size + 1) z rfl rfl 24 z H62.out IZ.out rfl Z1.out ?_)
  | fail)
 intro w8 r8 off8 sz8; have HB8 := hyd (HB6.out.trans (off8.below (Nat.le_succ _) HB6.out.size)); go_wp2; exact bodyPost_ret (results_id9 Tryz.results8 _ _ (w.heap.size + 1) z (0, 0) _ rfl rfl r8 ZS.out) rfl ⟨by rw [Z0.out]; rfl, HB8.out⟩
end Go.Proofs.YtnbcbiglkmdepaaGreatDoor
namespace Go.Proofs.YtnbcbiglkmdepaaGreatDoor
open Go.ChangeShapes Go.WideShapes Go.ChangeAt Go.RowKit Go.Deep Go.Joins
set_option maxRecDepth 100000
structure Obs where
 kind : Int
 v : Value
 body : List UInt8
instance : Inhabited Obs := ⟨⟨0, .nilIface, []⟩⟩
def okO (e : Obs) : Prop := ∃ a n c, e.v = .slice a n c
def rowO : RowT Obs := ⟨fun e => [.int .i64 e.kind, e.v], 2, 32, 34, 22, okO⟩
theorem obj_of_cells {H : Type} {enc : TypeId × Value → H} {W : World} {base fuel : Nat} {cs : List Value} {x : DataW H × List MemPlace} (h : DataW.trod enc Tryz.prog W base (fun _ => true) true fuel 34 cs = some x) :
  ∃ e : Obs, cs = [.int .i64 e.kind, e.v] ∧ Red W e.v e.body ∧ okO e ∧ (-9223372036854775808 ≤ e.kind ∧ e.kind ≤ 9223372036854775807) := by
 obtain ⟨y0, y1, m, _, hlen, h0, h1⟩ := trod_struct2 Tryz.underlying34 h
 have c2 : Tryz.prog.cellsOf 34 = 2 := by kernel_rfl
 have ci : Tryz.prog.cellsOf 3 = 1 := by kernel_rfl
 have cb : Tryz.prog.cellsOf 32 = 1 := by kernel_rfl
 rw [c2] at hlen
 match cs, hlen with
 | [v0, v1], _ =>
  have h0' : DataW.trod enc Tryz.prog W base (fun _ => true) true m 3 [v0] = some y0 := by simpa [ci] using h0
  have h1' : DataW.trod enc Tryz.prog W base (fun _ => true) true m 32 [v1] = some y1 := by simpa [cb] using h1
  obtain ⟨k, e0, z0, w0⟩ := DataW.trod_int Tryz.underlying3 h0'
  have e0' : v0 = .int .i64 k := by simpa using e0
  subst e0'
  have hs : ∃ (a : Option Addr) (n c : Nat), v1 = .slice a n c := by
   rcases open_ints Tryz.underlying32 Tryz.underlying5 (by kernel_rfl) h1' with ⟨hcs, _⟩ | ⟨x, l, c', zs, hcs, _⟩
   ·simp at hcs
    exact ⟨_, _, _, hcs⟩
   ·simp at hcs
    exact ⟨_, _, _, hcs⟩
  obtain ⟨a, n, c, rfl⟩ := hs; have ht : DataW.Trod enc Tryz.prog W base (fun _ => true) true 32 (.slice a n c) y1.1 y1.2 := ⟨m, by simpa [Value.cells] using h1'⟩; obtain ⟨l, h2, h3, h4, h5⟩ := open_bytes ht; exact ⟨⟨k, .slice a n c, l⟩, rfl, ⟨a, c, by rw [h2], h3, by rw [← h2]; exact h4, by rw [← h2]; exact h5.1, h5.2⟩, ⟨a, n, c, rfl⟩, bd_i64D w0⟩
theorem open_objects {H : Type} {enc : TypeId × Value → H} {W : World} {base : Nat} {a : Option Addr} {n c : Nat} {d : DataW H} {p : List MemPlace} (h : DataW.Trod enc Tryz.prog W base (fun _ => true) true 22 (.slice a n c) d p) :
  ∃ l : List Obs, n = l.length ∧ RowAt rowO W a l ∧ (a = none → n = 0 ∧ c = 0) ∧ (n ≤ c ∧ c ≤ maxLen) ∧ ∀ e ∈ l, okO e ∧ Red W e.v e.body ∧ (-9223372036854775808 ≤ e.kind ∧ e.kind ≤ 9223372036854775807) := by
 obtain ⟨fuel, hf⟩ := h
 rcases open_slice Tryz.underlying22 hf with ⟨hcs, _⟩ | ⟨x, len, cap, m, q, D, Pl, hcs, hb, hl, hm, hmm, _, hx⟩
 ·simp [Value.cells] at hcs
  obtain ⟨rfl, rfl, rfl⟩ := hcs; exact ⟨[], rfl, RowAt.nil _ _, fun _ => ⟨rfl, rfl⟩, ⟨Nat.le_refl _, Nat.zero_le _⟩, fun e he => (by cases he)⟩
 ·simp [Value.cells] at hcs
  obtain ⟨rfl, rfl, rfl⟩ := hcs
  have hmc : m = c := by simpa using hmm
  have c2 : Tryz.prog.cellsOf 34 = 2 := by kernel_rfl
  rw [c2] at hx
  have each : ∀ r, r < n → ∃ e : Obs, (∀ j v, ([.int .i64 e.kind, e.v] : List Value)[j]? = some v → W.cell? ((x.add (r * 2)).add j) = some v) ∧ okO e ∧ Red W e.v e.body ∧ (-9223372036854775808 ≤ e.kind ∧ e.kind ≤ 9223372036854775807) := by
   intro r hr; obtain ⟨cs', h1, h2⟩ := hx r (by omega); obtain ⟨_, hlen, hcell⟩ := World.cells?_some h1; obtain ⟨e, rfl, k1, k2, k3⟩ := obj_of_cells h2; refine ⟨e, fun j v hj => ?_, k2, k1, k3⟩; obtain ⟨hjl, hje⟩ := List.getElem?_eq_some_iff.1 hj; have := hcell j (by simpa using hjl); rw [this, List.getElem?_eq_getElem hjl, hje]
  obtain ⟨z, hz⟩ := choose_lt each; refine ⟨(List.range n).map z, by simp, ?_, (fun h => by cases h), ⟨hl, hm⟩, ?_⟩
  ·intro hp
   have hp2 : 0 < n := by simpa using hp
   obtain ⟨b, o, rfl⟩ : ∃ b o, x = ⟨b, o, none⟩ := by
    have := (hz 0 hp2).1 0 _ rfl; rw [Nat.zero_mul, show (x.add 0).add 0 = x by unfold Addr.add; simp] at this; exact spot_noneD this
   have add_eq : ∀ r s, ((⟨b, o, none⟩ : Addr).add r).add s = ⟨b, o + r + s, none⟩ := fun r s => by unfold Addr.add; split <;> split <;> simp_all
   have hlt : b < W.heap.size := by
    have := (hz 0 hp2).1 0 _ rfl; rw [add_eq] at this; exact lt_of_cell this
   refine ⟨b, o, rfl, hlt, fun k hk j v hv => ?_⟩
   have hk2 : k < n := by simpa using hk
   have e : ((List.range n).map z)[k] = z k := by simp
   rw [e] at hv; have := (hz k hk2).1 j v hv
   rwa [add_eq] at this
  ·intro i hi
   obtain ⟨k, hk, rfl⟩ := List.mem_map.1 hi; exact (hz k (List.mem_range.1 hk)).2
end Go.Proofs.YtnbcbiglkmdepaaGreatDoor
namespace Go.Proofs.YtnbcbiglkmdepaaGreatDoor
open Go.RowKit
variable {P : Program} {ops : Array Oper} {Q : Exit → Act → World → Prop} {md : Region.Mode} {S : World → Prop} {X : Nat → Bool}
theorem tkX (i : Nat) {oi : Oper} {v : Value} {fuel : Nat} {listed : Array Bool} {a b : Act} {w : World} (hi : ops[i]? = some oi) (hy : YieldsIf P ops S oi v a) (hS : S w)
  (h : wpAnyX P md ops Q S X fuel (listed.setIfInBounds i true) b w) (hs : Region.noSelect ops = true := by kernel_rfl) (hf : Region.free md ops listed i = true := by kernel_rfl)
  (hr : (Region.ready md ops listed).contains i = true := by kernel_rfl) (hx : waitsX md ops X i = true := by kernel_rfl) (hQ : ∀ c a w, Q (.panic c) (a.put oi.dst v) w → Q (.panic c) a w := by exact fun _ _ _ h => h)
  (hb : a.put oi.dst v = b := by first | (simp only [Act.put, lsA, lsZ, lsS]; rfl) | rfl) : wpAnyX P md ops Q S X (fuel + 1) listed a w :=
 wpAnyX_take hi hs hf hr hx hQ hy hS (hb ▸ h)
end Go.Proofs.YtnbcbiglkmdepaaGreatDoor
namespace Go.Proofs.YtnbcbiglkmdepaaGreatDoor
set_option maxRecDepth 20000
open Go.RowKit
theorem elem_cel : Tryz.prog.underlying 28 = some (.slice (Tryz.prog.elem 28)) := by kernel_rfl
theorem infoE_parts : ∃ ie z, Tryz.prog.info? 58 = some ie ∧ ie.zero = some z ∧ ie.size = 22 ∧ ie.bytes = 56 ∧ z.cells.size = 22 := goodE.info
theorem cel_head (a : Option Addr) (n c k : Nat) (x : Int) (hx : x = k) (hk : k ≤ c) (u : World) :
  (Instr.sliceAt 28 (.slice a n c) none (some (.int .i64 x)) none).run Tryz.prog u = .ok (.slice a k c) u := by
 subst hx; obtain ⟨i, z, hi, hz, hs, hby, _⟩ := infoE_parts
 have e : Tryz.prog.elem 28 = 58 := by kernel_rfl
 rw [run_sliceAt_slice (h := elem_cel), run_slice_h (ht := elem_cel) (h0 := by omega) (h2 := by omega)]; rw [e]
 simp [sizeOf, typeInfo, hi, hs, Result.andThen, sliced]
 cases a with
 | none => simp
 | some a => simp [Addr.add]
theorem cel_tail {α : Type} (R : RowT α) (hR : R.size = 22) (a : Option Addr) (n c k : Nat) (l : List α) (hn : n = l.length) (hk : k ≤ n) (hc : n ≤ c) :
  ∃ a', (∀ (x : Int) (u : World), x = k → (Instr.sliceAt 28 (.slice a n c) (some (.int .i64 x)) none none).run Tryz.prog u = .ok (.slice a' (n - k) (c - k)) u) ∧
   (∀ w, RowAt R w a l → RowAt R w a' (l.drop k)) := by
 obtain ⟨i, z, hi, hz, hs, hby, _⟩ := infoE_parts
 have e : Tryz.prog.elem 28 = 58 := by kernel_rfl
 refine ⟨if c = k then a else a.map (·.add (k * 22)), fun x u hx => ?_, fun w hb => ?_⟩
 ·subst hx
  rw [run_sliceAt_slice (h := elem_cel), run_slice_l (ht := elem_cel) (h0 := by omega) (h1 := by omega)]; rw [e]
  simp [sizeOf, typeInfo, hi, hs, Result.andThen, sliced]
 ·subst hn
  by_cases hck : c = k
  ·rw [if_pos hck]
   intro hp; rw [List.length_drop] at hp; omega
  ·rw [if_neg hck]
   intro hp; have hp2 := hp; rw [List.length_drop] at hp2; obtain ⟨b, o, rfl, h1⟩ := hb.some (by omega); have hd := hb.drop k; rw [hR] at hd
   have e2 : ((some ⟨b, o, none⟩ : Option Addr).map (·.add (k * 22))) = some ⟨b, o + k * 22, none⟩ := by simp [Addr.add]
   rw [e2]; exact hd hp
theorem wp_build_cel {o : Oper} {a : Act} {w : World} {K : Act → World → Prop} {Q : Exit → Act → World → Prop} (x : Operand) (ho : o.op = .buildSlice 28 1 #[(0, x)])
  (A : Array Value) (hA : A.size = 22) (hx : a.eval x = .agg A)
  (h : K (a.put o.dst (.slice (some ⟨w.heap.size, 0, none⟩) 1 1)) (w.alloc (.cells A 58))) : o.wp Tryz.prog a w K Q := by
 obtain ⟨ie, z, hie, hz, hs, _, hzs⟩ := infoE_parts; refine wp_buildSlice 28 58 1 _ ho A ie z Tryz.underlying28 hie hz (by rw [hs]; decide) (by rw [hs]; decide) ?_ h; rw [hs]
 have e : (Array.map (fun (p : Nat × Operand) => (p.1, a.eval p.2)) #[(0, x)]).toList = [(0, .agg A)] := by simp [hx]
 rw [show (fun (p : Nat × Operand) => match p with | (i, x) => (i, a.eval x)) = (fun (p : Nat × Operand) => (p.1, a.eval p.2)) from rfl, e]; have h := Great.fill_whole (s := 22) (by decide) [.agg A] ((Array.range (1 * 22)).map (z.cells[· % z.cells.size]!)) (fun v hv => by simp at hv; subst hv; exact hA) (by simp)
 simpa [Value.cells] using h
theorem row_one {w : World} {gq : Nat} {e : Ent} (h : w.heap[gq]? = some (.cells (cellsE e).toArray 58 (0, 0))) : RowAt rowE w (some ⟨gq, 0, none⟩) [e] := fun _ =>
 ⟨gq, 0, rfl, lt_of_heap h, fun k hk j v hv => by
  obtain rfl : k = 0 := by simpa using hk
  simp only [Nat.zero_mul, Nat.zero_add]; rw [Lib.cell_of_heap h, ← hv]
  show (cellsE e).toArray[j]? = (rowE.cl e)[j]?
  rw [show rowE.cl e = cellsE e from rfl]
  simp⟩
def celA (i : List UInt8) (k : Int) (v : Value) : Array Value := (cellsD i ++ [.int .i64 k, v]).toArray
theorem celA_size (i : List UInt8) (hi : i.length = 20) (k : Int) (v : Value) : (celA i k v).size = 22 := by
 unfold celA; rw [List.size_toArray, List.length_append, cellsD_len i hi]; rfl
theorem celA_one (i : List UInt8) (k : Int) (a : Option Addr) (n c : Nat) : (celA i k (.slice a n c)).all (·.oneCell') = true := by
 rw [Array.all_eq_true_iff_forall_mem]; intro v hv
 have hv2 : v ∈ cellsD i ++ [.int .i64 k, .slice a n c] := by unfold celA at hv; simpa using hv
 rcases List.mem_append.1 hv2 with h | h
 ·exact Array.all_eq_true_iff_forall_mem.1 (cellsD_one i) v (by simpa using h)
 ·simp only [List.mem_cons, List.not_mem_nil, or_false] at h
  rcases h with rfl | rfl <;> rfl
theorem built_cel20 (b0 b1 b2 b3 b4 b5 b6 b7 b8 b9 b10 b11 b12 b13 b14 b15 b16 b17 b18 b19 : UInt8) (k : Int) (a : Option Addr) (n c : Nat) :
  Tryz.prog.built 58 [(0, .agg (arrD [b0, b1, b2, b3, b4, b5, b6, b7, b8, b9, b10, b11, b12, b13, b14, b15, b16, b17, b18, b19])), (1, .agg #[.int .i64 k, .slice a n c])] = some (celA [b0, b1, b2, b3, b4, b5, b6, b7, b8, b9, b10, b11, b12, b13, b14, b15, b16, b17, b18, b19] k (.slice a n c)) := by kernel_rfl
theorem built_cel (i : List UInt8) (hi : i.length = 20) (k : Int) (a : Option Addr) (n c : Nat) :
  Tryz.prog.built 58 [(0, .agg (arrD i)), (1, .agg #[.int .i64 k, .slice a n c])] = some (celA i k (.slice a n c)) := by
 match i, hi with
 | [b0, b1, b2, b3, b4, b5, b6, b7, b8, b9, b10, b11, b12, b13, b14, b15, b16, b17, b18, b19], _ => exact built_cel20 b0 b1 b2 b3 b4 b5 b6 b7 b8 b9 b10 b11 b12 b13 b14 b15 b16 b17 b18 b19 k a n c
theorem zCel_any : ∃ z : Array Value, z.size = 22 ∧ (∀ w, (zeroValue 58).run Tryz.prog w = .ok (.agg z) w) := ⟨celA idZ 0 (.slice none 0 0), celA_size _ rfl _ _, zero_arr (n := 22) (by kernel_rfl)⟩
theorem step10 {P : Program} {ops : Array Oper} {o : Oper} {a : Act} {w : World} {K : Act → World → Prop} {Q : Exit → Act → World → Prop} {E : Prop} (hgd : o.guard = none) (h : Oper.wp P o a w K Q) : if Region.wanted o (yielded ops a.tmps) = true then Oper.wp P o a w K Q else E := by
 have hw : Region.wanted o (yielded ops a.tmps) = true := by simp [Region.wanted, hgd]
 rw [if_pos hw]; exact h
theorem wp_store_all10 {o : Oper} {a : Act} {w : World} {K : Act → World → Prop} {Q : Exit → Act → World → Prop} (ty : TypeId) (x y : Operand) (ho : o.op = .store ty x y) (g : Nat) (cells : Array Value)
  (hx : a.eval x = .pointer (some ⟨g, 0, none⟩)) (hy : a.eval y = .agg cells) (T : TypeId) (cur : Array Value) (hg : w.heap[g]? = some (.cells cur T (0, 0))) (hi : (Tryz.prog.info? ty).map (·.size) = some cells.size) (hfit : cells.size = cur.size)
  (h1 : cells.all (·.oneCell') = true)
  (h : ∀ w', w'.heap[g]? = some (.cells cells T (0, 0)) → Off g w w' → w'.heap.size = w.heap.size → K (a.put o.dst undef) w') : Oper.wp Tryz.prog o a w K Q := by
 obtain ⟨ie, hie, hsz⟩ : ∃ ie, Tryz.prog.info? ty = some ie ∧ ie.size = cells.size := by
  cases e : Tryz.prog.info? ty with
  | none => rw [e] at hi; cases hi
  | some ie => rw [e] at hi; exact ⟨ie, rfl, Option.some.inj hi⟩
 have hst := run_storeCells_at Tryz.prog g 0 T cells.toList 0 cur w hg (by rw [Array.length_toList]; omega) (fun v hv => (Array.all_eq_true_iff_forall_mem.1 h1) v (by simpa using hv)); unfold Oper.wp execOp; simp only [ho, hx, hy, Instr.storeAt, Instr.sureAddr, Sem.run_bind, Sem.run_pure, Result.andThen_ok]
 have hrun : (storeVar ty ⟨g, 0, none⟩ (.agg cells)).run Tryz.prog w = .ok () (w.setRow g (cur.toList.take 0 ++ cells.toList ++ cur.toList.drop (0 + cells.size)).toArray) := by
  simp only [Nat.add_zero, Array.length_toList] at hst
  simp [storeVar, sizeOf, typeInfo, hie, hsz, Value.cells, hst]
 rw [hrun]; have b := below_setRow (B := g) (Below.refl g w) (Nat.le_refl _) (cur.toList.take 0 ++ cells.toList ++ cur.toList.drop (0 + cells.size)).toArray
 have e : (cur.toList.take 0 ++ cells.toList ++ cur.toList.drop (0 + cells.size)).toArray = cells := by
  rw [List.take_zero, List.nil_append, Nat.zero_add, hfit, List.drop_of_length_le (by simp), List.append_nil]
 rw [e] at b ⊢; refine h _ (setRow_heap w g cur _ T (0, 0) hg) ⟨b.os, b.tape, b.output, b.size, fun k _ hk => ?_⟩ (by simp [World.setRow])
 have hkg : ¬ g = k := fun e => hk e.symm
 simp [World.setRow, Array.getElem?_modify, hkg]
theorem wp_store_one10 {o : Oper} {a : Act} {w : World} {K : Act → World → Prop} {Q : Exit → Act → World → Prop} (ty : TypeId) (x y : Operand) (ho : o.op = .store ty x y) (g : Nat) (av : Option Addr) (nv cv : Nat)
  (hx : a.eval x = .pointer (some ⟨g, 0, none⟩)) (hy : a.eval y = .slice av nv cv) (T : TypeId) (cur : Value) (hg : w.heap[g]? = some (.cells #[cur] T (0, 0))) (hi : (Tryz.prog.info? ty).map (·.size) = some 1)
  (h : ∀ w', w'.heap[g]? = some (.cells #[.slice av nv cv] T (0, 0)) → Off g w w' → w'.heap.size = w.heap.size → K (a.put o.dst undef) w') : Oper.wp Tryz.prog o a w K Q := by
 obtain ⟨ie, hie, hsz⟩ : ∃ ie, Tryz.prog.info? ty = some ie ∧ ie.size = 1 := by
  cases e : Tryz.prog.info? ty with
  | none => rw [e] at hi; cases hi
  | some ie => rw [e] at hi; exact ⟨ie, rfl, Option.some.inj hi⟩
 have hst := run_storeCells_at Tryz.prog g 0 T [.slice av nv cv] 0 #[cur] w hg (by simp) (fun v hv => by rw [List.mem_singleton.1 hv]; rfl); unfold Oper.wp execOp; simp only [ho, hx, hy, Instr.storeAt, Instr.sureAddr, Sem.run_bind, Sem.run_pure, Result.andThen_ok]
 have hrun : (storeVar ty ⟨g, 0, none⟩ (.slice av nv cv)).run Tryz.prog w = .ok () (w.setRow g #[.slice av nv cv]) := by
  simp only [Nat.add_zero] at hst
  simp [storeVar, sizeOf, typeInfo, hie, hsz, Value.cells, hst]
 rw [hrun]; have b := below_setRow (B := g) (Below.refl g w) (Nat.le_refl _) #[.slice av nv cv]; refine h _ (setRow_heap w g #[cur] _ T (0, 0) hg) ⟨b.os, b.tape, b.output, b.size, fun k _ hk => ?_⟩ (by simp [World.setRow])
 have hkg : ¬ g = k := fun e => hk e.symm
 simp [World.setRow, Array.getElem?_modify, hkg]
theorem infoLE : (Tryz.prog.info? 28).map (·.size) = some 1 := by kernel_rfl
theorem yields_build2 {ops : Array Oper} {S : World → Prop} {o : Oper} {a : Act} (hw : Region.wanted o (yielded ops a.tmps) = true) (t : TypeId) (k0 k1 : Nat) (x0 x1 : Operand) (v0 v1 : Value) (ho : o.op = .build t #[(k0, x0), (k1, x1)])
  (h0 : a.eval x0 = v0) (h1 : a.eval x1 = v1) (cells : Array Value) (hb : Tryz.prog.built t [(k0, v0), (k1, v1)] = some cells) : YieldsIf Tryz.prog ops S o (.agg cells) a :=
 .inl ⟨hw, fun u _ => by
  have hp : Tryz.prog.built t ((#[(k0, x0), (k1, x1)] : Array (Nat × Operand)).map fun (i, x) => (i, a.eval x)).toList = some cells := by simp [h0, h1, hb]
  unfold execOp
  simp only [ho, Sem.run_bind, run_build u t _ cells hp, Result.andThen_ok, Sem.run_pure]⟩
theorem built_ob2 (k : Int) (a : Option Addr) (n c : Nat) : Tryz.prog.built 34 [(0, .int .i64 k), (1, .slice a n c)] = some #[.int .i64 k, .slice a n c] := by kernel_rfl
structure NewCel (w0 : World) (i : List UInt8) (k : Int) (b : List UInt8) (gc : Nat) (v : Value) (u : World) : Prop where
 cel : u.heap[gc]? = some (.cells (celA i k v) 58 (0, 0))
 row : Row u v b
 far : ∀ g, foot v = some g → w0.heap.size ≤ g ∧ g ≠ gc
 new : w0.heap.size ≤ gc
 low : Below w0.heap.size w0 u
theorem row_redS {w : World} {v : Value} {l : List UInt8} {B : Nat} (h : Row w v l) (hf : ∀ q, foot v = some q → B ≤ q) : RedS (fun k => B ≤ k) w v l := by
 obtain ⟨a, c, e, h1, h2, h3, h4⟩ := h.shape; refine ⟨a, c, e, h3, h4, h1, h2, fun ad hp ha => ?_⟩; refine hf ad.block ?_; rw [e, ha]; obtain ⟨c', rfl⟩ : ∃ c', c = c' + 1 := ⟨c - 1, by omega⟩
 rfl
theorem store_put {S : Nat → Prop} {w w8 : World} {g q m B : Nat} {L : List Cel} {E : List Ent} {X0 : Ent} {a1 a3 : Option Addr} {c3 : Nat} (hS : S g) (hE : E.map Ent.c = L) (hc : CelsAt S w g a1 E) (hgw : g < w.heap.size) (hm : L.length = m) (hq : q ≤ m)
  (off : Off g w w8) (hg8 : w8.heap[g]? = some (.cells #[.slice a3 (m + 1) c3] 30 (0, 0))) (own : OwnR rowE B (.slice a3 (m + 1) c3) (E.take q ++ [X0] ++ E.drop q) w8) (hB : w.heap.size ≤ B) (okX : okE X0)
  (hX : RedS (fun k => w.heap.size ≤ k) w8 X0.v X0.c.body) : StoreAt (fun j => S j ∨ w.heap.size ≤ j) w8 g (putAt L q X0.c) := by
 have hEl : E.length = m := by rw [← hm, ← hE, List.length_map]
 have hmem : ∀ x ∈ E.take q ++ [X0] ++ E.drop q, x = X0 ∨ x ∈ E := fun x hx => (List.mem_append.1 hx).elim (fun hx => (List.mem_append.1 hx).elim (fun h => .inr (List.mem_of_mem_take h)) (fun h => .inl (List.mem_singleton.1 h))) (fun h => .inr (List.mem_of_mem_drop h))
 have hok : ∀ x ∈ E.take q ++ [X0] ++ E.drop q, rowE.ok x := fun x hx => (hmem x hx).elim (fun e => e ▸ okX) (fun h => hc.ok x h)
 have hlen : (E.take q ++ [X0] ++ E.drop q).length = m + 1 := by
  rw [List.length_append, List.length_append, List.length_take, List.length_drop, hEl]; simp only [List.length_cons, List.length_nil]; omega
 have hsh := ownR_shape goodE own hok; obtain ⟨a, c, e, hle, hmx, hrow, hnone, had⟩ := hsh; rw [hlen] at e hle hnone; simp only [Value.slice.injEq, true_and] at e; obtain ⟨rfl, rfl⟩ := e
 have hpl : (putAt L q X0.c).length = m + 1 := by rw [put_len _ _ _ (by rw [hm]; exact hq), hm]
 refine ⟨.inl hS, E.take q ++ [X0] ++ E.drop q, a3, c3, ?_, by rw [hpl]; exact hg8, ⟨hrow, hok, fun ad _ ha => ?_, fun x hx => ?_⟩, by rw [hpl]; exact hnone, by rw [hpl]; exact hle, hmx⟩
 ·unfold putAt
  rw [← hE]
  simp [List.map_take, List.map_drop]
 ·have := (had ad ha).1
  exact ⟨.inr (by omega), by omega⟩
 ·rcases hmem x hx with rfl | h
  ·exact hX.mono (fun k _ hk => ⟨.inr hk, by omega⟩)
  ·have h1 := (hc.body x h).mono (S' := fun k => (S k ∧ k ≠ g) ∧ k < w.heap.size) (fun k hk hs => ⟨hs, hk⟩)
   exact (h1.keep ⟨off.size, fun k hk hl => off.block k hl hk.1.2⟩).mono (fun k _ hk => ⟨.inl hk.1.1, hk.1.2⟩)
theorem rPut_new {S : Nat → Prop} {w : World} {g : Nat} {L : List Cel} (h : StoreAt S w g L) (k : Int) (v : Value) (b : List UInt8) (hv : Red w v b) (he : (printO k b).2 = 0) (hm : L.length ≤ 1000000) (hf : L.length < 5000) (hx : getS L (sumO k b) = none) :
  Calls Tryz.prog 8 #[.pointer (some ⟨g, 0, none⟩), .agg #[.int .i64 k, v]] w fun e w' => e = .returned (.tuple #[.agg (arrD (sumO k b)), .int .i64 0]) ∧ StoreAt (fun j => S j ∨ w.heap.size ≤ j) w' g (putAt L (atS L (sumO k b)) ⟨sumO k b, k, b⟩) ∧ Off g w w' := by
 have hvr := hv; obtain ⟨a, c, rfl, hb, hno, hc, hmx⟩ := hv; obtain ⟨n, hn⟩ : ∃ n, b.length = n := ⟨_, rfl⟩; rw [hn] at hno hc hvr ⊢; obtain ⟨z, hz0, hzs, hzv, hzb, hz1⟩ := zId_any; have b1 := (Below.refl w.heap.size w).alloc (Nat.le_refl _) (.cells #[.int .i64 k, .slice a n c] 34); have b2 := b1.alloc b1.size (.cells z 24)
 have hs1 : (w.alloc (.cells #[.int .i64 k, .slice a n c] 34)).heap.size = w.heap.size + 1 := by simp
 have h02 := heap_alloc_new (w.alloc (.cells #[.int .i64 k, .slice a n c] 34)) (.cells z 24); have h01 := (((Below.refl (w.alloc (.cells #[.int .i64 k, .slice a n c] 34)).heap.size (w.alloc (.cells #[.int .i64 k, .slice a n c] 34))).alloc (Nat.le_refl _) (.cells z 24)).block w.heap.size (by simp)).trans (heap_alloc_new w _); rw [hs1] at h02; have H1 := hyd h01; have H2 := hyd h02; have B2 := hyd b2; have ZB := hyd hzb; have Z1 := hyd hz1; have Z0 := hyd hz0; have ZS := hyd hzs; have IZ := hyd (show (Tryz.prog.info? 24).map (·.size) = some z.size from by rw [hzs]; exact infoD_n); have CP := hyd (fun u (hu : Below w.heap.size w u) => roPrint_any k a n c b u hn.symm (hb.keep hu) hno hc hmx); have CI := hyd (fun u (hu : Below w.heap.size w u) => roId_is k a n c b u hn.symm (hb.keep hu) hno hc hmx)
 have sl : (sumO k b).length = 20 := by
  unfold sumO; rw [if_pos he]
  simp [sumL, digest_len]
 have CT := hyd (fun u (hu : Below w.heap.size w u) => rAt_is (h.below hu) (sumO k b) sl hm); rw [hx] at CT
 have KG := hyd (by
  obtain ⟨hg, E, a0, c0, hE, hblk, hcels, hnone, hle, hmax⟩ := h
  exact ⟨a0, c0, fun u hu => (by
   rw [Lib.cell_of_heap ((hu.block g (lt_of_heap hblk)).trans hblk)]
   rfl)⟩ : ∃ a0 c0, ∀ u, Below w.heap.size w u → u.cell? ⟨g, 0, none⟩ = some (.slice a0 L.length c0))
 obtain ⟨I, hI⟩ : ∃ I, arrD (sumO k b) = I := ⟨_, rfl⟩; have HI := hyd hI; have IS := hyd (show I.size = 20 by rw [← hI]; exact arrD_size _ sl); have IO := hyd (show I.all (·.oneCell') = true by rw [← hI]; exact arrD_one _); have II := hyd (show (Tryz.prog.info? 24).map (·.size) = some I.size from by rw [IS.out]; exact infoD_n); have CC := hyd (fun u (hu : Below w.heap.size w u) => CopyBytes_any b u a n c (hb.keep hu) hn.symm hno (by have := (printO_zero he).2; omega)); have RV := hyd (fun u (hu : Below w.heap.size w u) => (⟨a, c, by rw [hn], hb.keep hu, by rw [hn]; exact hno, by rw [hn]; exact hc, hmx⟩ : Red u (.slice a n c) b)); have LB := hyd (show (Tryz.prog.info? 34).map (·.size) = some (#[.int .i64 k, .slice a n c] : Array Value).size from infoOb); rw [he] at CP; rw [hI] at CT
 have ei : idv (sumO k b) = .agg I := by rw [idv_arrD, hI]
 rw [ei] at CI; obtain ⟨q, hq⟩ : ∃ q, atS L (sumO k b) = q := ⟨_, rfl⟩; rw [hq] at CT; have HN0 := hyd hn; have HQ := hyd hq; have HST := hyd h; clear b1 b2 h01 h02 hs1 hb hno hc hmx hz0 hzs hzb hz1 hn h hq hI ei sl hvr hx
 go_enter Tryz.func8, Tryz.ntmps8
 go_wp2_with fail
 refine (CP.out _ B2.out).mono ?_; rintro e w3 ⟨v3, rfl, hr3, hb3⟩; have H31 := hyd ((hb3.block w.heap.size (lt_of_heap H1.out)).trans H1.out); have H32 := hyd ((hb3.block (w.heap.size + 1) (lt_of_heap H2.out)).trans H2.out); have HB3 := hyd (B2.out.trans (hb3.mono B2.out.size)); clear hb3 CP hr3; obtain ⟨y0, y1⟩ := cells2 H31.out
 go_wp2_with fail
 refine (CI.out _ HB3.out).mono ?_; rintro e w4 ⟨rfl, hb4⟩; have H41 := hyd ((hb4.block w.heap.size (lt_of_heap H31.out)).trans H31.out); have H42 := hyd ((hb4.block (w.heap.size + 1) (lt_of_heap H32.out)).trans H32.out); have HB4 := hyd (HB3.out.trans (hb4.mono HB3.out.size)); clear hb4 CI y0 y1
 go_wp2_with (first
  | (with_reducible refine wpList_store_all rfl 24 (.tmp 8) (.tmp 22) rfl w4.heap.size I rfl rfl 24 z (heap_alloc_new w4 _) II.out (IS.out.trans ZS.out.symm) IO.out ?_)
  | fail)
 intro w5 r5 off5 sz5; have b45 : Below w4.heap.size w4 w5 := ((Below.refl w4.heap.size w4).alloc (Nat.le_refl _) (.cells z 24)).trans (off5.below (Nat.le_refl _) (by simp)); have H51 := hyd ((b45.block w.heap.size (lt_of_heap H41.out)).trans H41.out); have H52 := hyd ((b45.block (w.heap.size + 1) (lt_of_heap H42.out)).trans H42.out); have HB5 := hyd (HB4.out.trans (b45.mono HB4.out.size)); have R5 := hyd r5; clear b45 r5 off5 sz5
 go_wp2_with (first
  | (with_reducible refine wpList_load_all 24 (.tmp 8) rfl (by kernel_rfl) w4.heap.size I 24 (0, 0) rfl R5.out _ Tryz.underlying24 rfl II.out ?_)
  | fail)
 refine (CT.out _ HB5.out).mono ?_; rintro e w6 ⟨rfl, hb6⟩; have H61 := hyd ((hb6.block w.heap.size (lt_of_heap H51.out)).trans H51.out); have H62 := hyd ((hb6.block (w.heap.size + 1) (lt_of_heap H52.out)).trans H52.out); have R6 := hyd ((hb6.block w4.heap.size (lt_of_heap R5.out)).trans R5.out); have HB6 := hyd (HB5.out.trans (hb6.mono HB5.out.size)); clear hb6 CT; obtain ⟨a0, c0, hpg⟩ := KG.out; have pg := hpg _ HB6.out
 have g1 : ¬ (L.length : Int) ≥ 5000 := by omega
 have g1b : (decide ((L.length : Int) ≥ 5000)) = false := decide_eq_false g1; obtain ⟨m, hm2⟩ : ∃ m, L.length = m := ⟨_, rfl⟩; rw [hm2] at pg g1 g1b; have HM2 := hyd hm2; have HPG := hyd hpg; clear hm2 hpg
 go_wp2_with fail
 obtain ⟨ci, rfl⟩ : ∃ ci : List Value, I = ci.toArray := ⟨I.toList, by simp⟩; obtain ⟨zc, hzc, hzcv⟩ := zCel_any; have ZC := hyd hzc; have HN := HN0
 have SL := hyd (show (sumO k b).length = 20 by
  unfold sumO; rw [if_pos he]
  simp [sumL, digest_len])
 have BC := hyd (fun va vc => (by have := built_cel (sumO k b) SL.out k va n vc; rw [HI.out] at this; exact this : Tryz.prog.built 58 [(0, .agg ci.toArray), (1, .agg #[.int .i64 k, .slice va n vc])] = some (celA (sumO k b) k (.slice va n vc)))); have IC := hyd (fun va vc => (by rw [celA_size _ SL.out]; exact infoE_n : (Tryz.prog.info? 58).map (·.size) = some (celA (sumO k b) k (.slice va n vc)).size)); clear hzc; obtain ⟨y0, y1⟩ := cells2 H61.out
 refine region_cut (fun a0 a' u => ∃ gc va vc, a' = ((((((((a0.put (some 50) (.agg ci.toArray)).put (some 51) (.pointer (some ⟨w.heap.size, 0, none⟩))).put (some 52) (.int .i64 k)).put (some 53) (.pointer (some ⟨w.heap.size, 1, none⟩))).put (some 54) (.slice a n c)).put (some 55) (.slice va n vc)).put (some 56) (.agg #[.int .i64 k, .slice va n vc])).put (some 57) (.agg (celA (sumO k b) k (.slice va n vc)))).put (some 11) (.pointer (some ⟨gc, 0, none⟩))
  ∧ NewCel w6 (sumO k b) k b gc (.slice va n vc) u) ?_ ?_
 ·refine rgB w6 (fun hd => ?_)
  have L0 := hyd (fun u (hu : Below w6.heap.size w6 u) => (show u.rangeAt w4.heap.size 0 ci from row_arrD ((hu.block w4.heap.size (lt_of_heap R6.out)).trans R6.out)))
  have c0 : ∀ u, Below w6.heap.size w6 u → u.cell? ⟨w.heap.size, 0, none⟩ = some (.int .i64 k) := fun u hu => (hu.cell (World.block_lt_of_cell? w6 _ y0)).trans y0
  have c1 : ∀ u, Below w6.heap.size w6 u → u.cell? ⟨w.heap.size, 1, none⟩ = some (.slice a n c) := fun u hu => (hu.cell (World.block_lt_of_cell? w6 _ y1)).trans y1
  have C0 := hyd c0; have C1 := hyd c1; have IT := hyd (show (Tryz.prog.info? 24).map (·.size) = some ci.length by have := II.out; rwa [List.size_toArray] at this); clear c0 c1 y0 y1; refine tkH 0 rfl (yieldsIf_load_mid (by kernel_rfl) 24 (.tmp 8) (by kernel_rfl) w4.heap.size 0 (by kernel_rfl) ci _ (fun u hu => L0.out u hu) Tryz.underlying24 rfl IT.out) hd ?_; refine tkV 1 rfl (.pointer (some ⟨w.heap.size, 0, none⟩)) ?by1 hd ?_
  case by1 => intro u hu; go_simp; try with_reducible rfl
  refine tkV 2 rfl (.int .i64 k) ?by2 hd ?_
  case by2 => intro u hu; have q := C0.out u hu; go_simp; try with_reducible rfl
  refine tkV 3 rfl (.pointer (some ⟨w.heap.size, 1, none⟩)) ?by3 hd ?_
  case by3 => intro u hu; go_simp; try with_reducible rfl
  refine tkV 4 rfl (.slice a n c) ?by4 hd ?_
  case by4 => intro u hu; have q := C1.out u hu; go_simp; try with_reducible rfl
  refine wpAnyH_ready (rs := [5, 8]) (by kernel_rfl) (by simp) ?_; refine AllReadyH.cons rfl (fun K hK => ?_) (AllReadyH.cons rfl (fun K hK => ?_) AllReadyH.nil)
  ·go_simp
   refine (CC.out _ (HB6.out.trans (hd.mono HB6.out.size))).mono ?_; rintro e u1 ⟨v', rfl, hrow, hfar, hb1⟩; obtain ⟨va, vc, hv', -⟩ := hrow.shape; rw [HN.out] at hv'; subst hv'; have hH : Below w6.heap.size w6 u1 := hd.trans (hb1.mono hd.size); have HROW := hyd hrow; have HFAR := hyd hfar; have HB1 := hyd hb1; clear hrow hfar hb1 hd; refine hK.out _ _ hH (fun hd => ?_); clear hK K
   try simp only [Act.put, lsA, lsZ, lsS]
   refine tkH 6 rfl (yields_build2 (by kernel_rfl) 34 0 1 (.tmp 52) (.tmp 55) (.int .i64 k) (.slice va n vc) rfl (by kernel_rfl) (by kernel_rfl) _ (built_ob2 k va n vc)) hd ?_; refine tkH 7 rfl (yields_build2 (by kernel_rfl) 58 0 1 (.tmp 50) (.tmp 56) (.agg ci.toArray) (.agg #[.int .i64 k, .slice va n vc]) rfl (by kernel_rfl) (by kernel_rfl) _ (BC.out va vc)) hd ?_; refine rdH 8 rfl (fun K hK => ?_)
   go_simp
   have hH2 : Below w6.heap.size w6 (u1.alloc (.cells zc 58)) := hd.alloc hd.size _; refine hK.out _ _ hH2 (fun hd => ?_); clear hK K hH2
   try simp only [Act.put, lsA, lsZ, lsS]
   have hcel : (u1.alloc (.cells zc 58)).heap[u1.heap.size]? = some (.cells zc 58 (0, 0)) := heap_alloc_new u1 _; have hge : w6.heap.size ≤ u1.heap.size := HB1.out.size; refine rdH 9 rfl (fun K hK => ?_); refine step10 rfl (wp_store_all10 58 (.tmp 11) (.tmp 57) rfl u1.heap.size (celA (sumO k b) k (.slice va n vc)) (by kernel_rfl) (by kernel_rfl) 58 zc hcel (IC.out va vc) (by rw [ZC.out]; exact celA_size _ SL.out _ _) (celA_one _ _ _ _ _) (fun u9 r9 off9 sz9 => ?_)); have hH9 : Below w6.heap.size w6 u9 := hd.trans (off9.below hge hd.size); refine hK.out _ _ hH9 (fun hd => ?_); clear hK K
   try simp only [Act.put, lsA, lsZ, lsS]
   refine wpAnyH_done (by kernel_rfl) ?_ _
   have hrow9 : Row u9 (.slice va n vc) b := HROW.out.keep (fun q hq => by
    have hl := HROW.out.lt q hq
    exact (off9.block q (by simp; omega) (by omega)).trans (((Below.refl u1.heap.size u1).alloc (Nat.le_refl _) _).block q hl))
   refine ⟨u1.heap.size, va, vc, ?_, ⟨r9, hrow9, fun q hq => ⟨HFAR.out q hq, by have := HROW.out.lt q hq; omega⟩, hge, hd⟩⟩
   go_simp
  ·go_simp
   have hH : Below w6.heap.size w6 (w6.alloc (.cells zc 58)).drew := ((Below.refl w6.heap.size w6).alloc (Nat.le_refl _) _).drew; refine hK.out _ _ hH (fun hd => ?_); clear hK K hH
   try simp only [Act.put, lsA, lsZ, lsS]
   refine rdH 5 rfl (fun K hK => ?_)
   go_simp
   refine (CC.out _ (HB6.out.trans (hd.mono HB6.out.size))).mono ?_; rintro e u1 ⟨v', rfl, hrow, hfar, hb1⟩; obtain ⟨va, vc, hv', -⟩ := hrow.shape; rw [HN.out] at hv'; subst hv'; have hH : Below w6.heap.size w6 u1 := hd.trans (hb1.mono hd.size); have HROW := hyd hrow; have HFAR := hyd hfar; have HB1 := hyd hb1; clear hrow hfar hb1 hd; refine hK.out _ _ hH (fun hd => ?_); clear hK K
   try simp only [Act.put, lsA, lsZ, lsS]
   refine tkH 6 rfl (yields_build2 (by kernel_rfl) 34 0 1 (.tmp 52) (.tmp 55) (.int .i64 k) (.slice va n vc) rfl (by kernel_rfl) (by kernel_rfl) _ (built_ob2 k va n vc)) hd ?_; refine tkH 7 rfl (yields_build2 (by kernel_rfl) 58 0 1 (.tmp 50) (.tmp 56) (.agg ci.toArray) (.agg #[.int .i64 k, .slice va n vc]) rfl (by kernel_rfl) (by kernel_rfl) _ (BC.out va vc)) hd ?_; have hcel : u1.heap[w6.heap.size]? = some (.cells zc 58 (0, 0)) := (HB1.out.block w6.heap.size (by show _ < (w6.alloc (.cells zc 58)).heap.size; simp)).trans (heap_alloc_new w6 _); refine rdH 9 rfl (fun K hK => ?_); refine step10 rfl (wp_store_all10 58 (.tmp 11) (.tmp 57) rfl w6.heap.size (celA (sumO k b) k (.slice va n vc)) (by kernel_rfl) (by kernel_rfl) 58 zc hcel (IC.out va vc) (by rw [ZC.out]; exact celA_size _ SL.out _ _) (celA_one _ _ _ _ _) (fun u9 r9 off9 sz9 => ?_)); have hH9 : Below w6.heap.size w6 u9 := hd.trans (off9.below (Nat.le_refl _) hd.size); refine hK.out _ _ hH9 (fun hd => ?_); clear hK K
   try simp only [Act.put, lsA, lsZ, lsS]
   refine wpAnyH_done (by kernel_rfl) ?_ _
   have hfr : ∀ q, foot (.slice va n vc) = some q → w6.heap.size < q := fun q hq => by
    have := HFAR.out q hq
    have e : (w6.alloc (.cells zc 58)).drew.heap.size = w6.heap.size + 1 := by show (w6.alloc (.cells zc 58)).heap.size = _; simp
    omega
   have hrow9 : Row u9 (.slice va n vc) b := HROW.out.keep (fun q hq => off9.block q (HROW.out.lt q hq) (by have := hfr q hq; omega)); refine ⟨w6.heap.size, va, vc, ?_, ⟨r9, hrow9, fun q hq => ⟨Nat.le_of_lt (hfr q hq), by have := hfr q hq; omega⟩, Nat.le_refl _, hd⟩⟩
   go_simp
 ·rintro a' u ⟨gc, va, vc, rfl, hnew⟩
  have HB7 := hyd (HB6.out.trans (hnew.low.mono HB6.out.size)); obtain ⟨X0, hX⟩ : ∃ X0 : Ent, X0 = ⟨⟨sumO k b, k, b⟩, .slice va n vc⟩ := ⟨_, rfl⟩; have HX1 := hyd hX
  have okX : okE X0 := by rw [hX]; exact ⟨SL.out, va, n, vc, rfl⟩
  have hcelX : u.heap[gc]? = some (.cells (cellsE X0).toArray 58 (0, 0)) := by rw [hX]; exact hnew.cel
  have OKX := hyd okX; obtain ⟨hg, E, a1, c1, hE, hblk0, hcels0, hnone, hle, hmax⟩ := HST.out; have hblk := (HB7.out.block g (lt_of_heap hblk0)).trans hblk0; have hcels := hcels0.keep (Stays.of HB7.out); have HC0 := hyd hcels0; have HGW := hyd (lt_of_heap hblk0); clear hblk0 hcels0
  have hEn : E.length = m := by rw [← HM2.out, ← hE, List.length_map]
  rw [HM2.out] at hblk hle
  have hqle : q ≤ m := by rw [← HQ.out, ← HM2.out]; exact atS_le _ _
  obtain ⟨at', hsl, hrt⟩ := cel_tail rowE rfl a1 m c1 q E hEn.symm hqle hle
  have hsh := fun u' => cel_head a1 m c1 q q rfl (Nat.le_trans hqle hle) u'
  have PG := hyd (fun u' (hu : Below u.heap.size u u') => (by
   rw [Lib.cell_of_heap ((hu.block g (lt_of_heap hblk)).trans hblk)]
   rfl : u'.cell? ⟨g, 0, none⟩ = some (.slice a1 m c1)))
  have KE := hyd (fun u' (hu : Below u.heap.size u u') => (hcels.keep (Stays.of hu) : CelsAt S u' g a1 E)); have RX := hyd (fun u' (hu : Below u.heap.size u u') => (show u'.rangeAt gc 0 (cellsE X0) from row_arrD ((hu.block gc (lt_of_heap hcelX)).trans hcelX))); have LX := hyd (show (Tryz.prog.info? 58).map (·.size) = some (cellsE X0).length by rw [cellsE_len X0 okX]; exact infoE_n); have SX := hyd (show (cellsE X0).toArray.size = 22 by rw [List.size_toArray, cellsE_len X0 okX]); have HNW := hyd hnew; have HBK := hyd hblk; have HE := hyd hE; have HEN := hyd hEn; have HRT := hyd hrt; have HSL := hyd (fun u' => hsl (q : Int) u' rfl); have HQL := hyd hqle; clear hnew hX okX hcelX hE hblk hcels hnone hrt hEn hsl
  go_wp2_with fail
  refine region_cut (fun a0 a' u' => ∃ v1 gl v2 a3 c3, a' = ((((((((((((((((((((a0.put (some 58) (.pointer (some ⟨g, 0, none⟩))).put (some 59) (.pointer (some ⟨g, 0, none⟩))).put (some 60) (.pointer (some ⟨g, 0, none⟩))).put (some 61) (.pointer (some ⟨g, 0, none⟩))).put (some 62) (.slice a1 m c1)).put (some 63) (.int .i64 q)).put (some 64) (.slice a1 q c1)).put (some 65) (v1)).put (some 66) (.agg (cellsE X0).toArray)).put (some 67) (.slice (some ⟨gl, 0, none⟩) 1 1)).put (some 68) (v2)).put (some 69) (.pointer (some ⟨g, 0, none⟩))).put (some 70) (.pointer (some ⟨g, 0, none⟩))).put (some 71) (.pointer (some ⟨g, 0, none⟩))).put (some 72) (.slice a1 m c1)).put (some 73) (.int .i64 q)).put (some 74) ((.slice at' (m - q) (c1 - q)))).put (some 75) (.slice a3 (m + 1) c3)).put (some 76) (.pointer (some ⟨g, 0, none⟩))).put (some 77) (.pointer (some ⟨g, 0, none⟩))) ∧ u'.heap[g]? = some (.cells #[.slice a3 (m + 1) c3] 30 (0, 0)) ∧ Off g u u' ∧ OwnR rowE u.heap.size (.slice a3 (m + 1) c3) (E.take q ++ [X0] ++ E.drop q) u') ?_ ?_
  ·skip
   refine wp_regionX (S := fun u' => Below u.heap.size u u') (fun j => decide (18 ≤ j)) (by kernel_rfl) (Below.refl _ _).drew (fun hd => ?_); refine tkX (v := .pointer (some ⟨g, 0, none⟩)) 0 rfl (Or.inl ⟨by kernel_rfl, ?ry0⟩) hd ?_
   case ry0 => intro u' hu; go_simp; try with_reducible rfl
   try simp only [Act.put, lgA, lgS, lgZ, lsA, lsZ, lsS]
   refine tkX (v := .pointer (some ⟨g, 0, none⟩)) 1 rfl (Or.inl ⟨by kernel_rfl, ?ry1⟩) hd ?_
   case ry1 => intro u' hu; go_simp; try with_reducible rfl
   try simp only [Act.put, lgA, lgS, lgZ, lsA, lsZ, lsS]
   refine tkX (v := .pointer (some ⟨g, 0, none⟩)) 2 rfl (Or.inl ⟨by kernel_rfl, ?ry2⟩) hd ?_
   case ry2 => intro u' hu; go_simp; try with_reducible rfl
   try simp only [Act.put, lgA, lgS, lgZ, lsA, lsZ, lsS]
   refine tkX (v := .pointer (some ⟨g, 0, none⟩)) 3 rfl (Or.inl ⟨by kernel_rfl, ?ry3⟩) hd ?_
   case ry3 => intro u' hu; go_simp; try with_reducible rfl
   try simp only [Act.put, lgA, lgS, lgZ, lsA, lsZ, lsS]
   refine tkX (v := .slice a1 m c1) 4 rfl (Or.inl ⟨by kernel_rfl, ?ry4⟩) hd ?_
   case ry4 => intro u' hu; have q9 := PG.out u' hu; go_simp; try with_reducible rfl
   try simp only [Act.put, lgA, lgS, lgZ, lsA, lsZ, lsS]
   refine tkX (v := .int .i64 q) 5 rfl (Or.inl ⟨by kernel_rfl, ?ry5⟩) hd ?_
   case ry5 => intro u' hu; go_simp; try with_reducible rfl
   try simp only [Act.put, lgA, lgS, lgZ, lsA, lsZ, lsS]
   refine tkX (v := .slice a1 q c1) 6 rfl (Or.inl ⟨by kernel_rfl, ?ry6⟩) hd ?_
   case ry6 => intro u' hu; have q9 := hsh u'; go_simp; try with_reducible rfl
   try simp only [Act.put, lgA, lgS, lgZ, lsA, lsZ, lsS]
   refine tkX 8 rfl (yieldsIf_load_mid (by kernel_rfl) 58 (.tmp 11) (by kernel_rfl) gc 0 (by kernel_rfl) (cellsE X0) _ (fun u' hu => RX.out u' hu) Tryz.underlying58 rfl LX.out) hd ?_
   try simp only [Act.put, lgA, lgS, lgZ, lsA, lsZ, lsS]
   refine tkX (v := .pointer (some ⟨g, 0, none⟩)) 11 rfl (Or.inl ⟨by kernel_rfl, ?ry11⟩) hd ?_
   case ry11 => intro u' hu; go_simp; try with_reducible rfl
   try simp only [Act.put, lgA, lgS, lgZ, lsA, lsZ, lsS]
   refine tkX (v := .pointer (some ⟨g, 0, none⟩)) 12 rfl (Or.inl ⟨by kernel_rfl, ?ry12⟩) hd ?_
   case ry12 => intro u' hu; go_simp; try with_reducible rfl
   try simp only [Act.put, lgA, lgS, lgZ, lsA, lsZ, lsS]
   refine tkX (v := .pointer (some ⟨g, 0, none⟩)) 13 rfl (Or.inl ⟨by kernel_rfl, ?ry13⟩) hd ?_
   case ry13 => intro u' hu; go_simp; try with_reducible rfl
   try simp only [Act.put, lgA, lgS, lgZ, lsA, lsZ, lsS]
   refine tkX (v := .slice a1 m c1) 14 rfl (Or.inl ⟨by kernel_rfl, ?ry14⟩) hd ?_
   case ry14 => intro u' hu; have q9 := PG.out u' hu; go_simp; try with_reducible rfl
   try simp only [Act.put, lgA, lgS, lgZ, lsA, lsZ, lsS]
   refine tkX (v := .int .i64 q) 15 rfl (Or.inl ⟨by kernel_rfl, ?ry15⟩) hd ?_
   case ry15 => intro u' hu; go_simp; try with_reducible rfl
   try simp only [Act.put, lgA, lgS, lgZ, lsA, lsZ, lsS]
   refine tkX (v := .slice at' (m - q) (c1 - q)) 16 rfl (Or.inl ⟨by kernel_rfl, ?ry16⟩) hd ?_
   case ry16 => intro u' hu; have q9 := HSL.out u'; go_simp; try with_reducible rfl
   try simp only [Act.put, lgA, lgS, lgZ, lsA, lsZ, lsS]
   refine wpAnyX_ready (rs := [7, 9]) (by kernel_rfl) (by simp) ?_; refine AllReadyX.cons rfl (fun K hK => ?_) (AllReadyX.cons rfl (fun K hK => ?_) AllReadyX.nil)
   ·refine step10 rfl (wp_append_anyR goodE (.const (.slice none 0 0)) (.tmp 64) rfl u.heap.size (.slice none 0 0) [] (E.take q) a1 q c1 rfl (by kernel_rfl) (by rw [List.length_take, HEN.out]; exact (Nat.min_eq_left HQL.out).symm) ((KE.out _ hd).row.take q) (fun x hx => (KE.out _ hd).ok x (List.mem_of_mem_take hx)) (fun x hx => by cases hx) (ownR_nil _ _) (by rw [List.length_take, HEN.out, List.length_nil]; omega) hd.size (fun v1 w1 o1 g1' => ?_))
    have hH1 := hd.grown g1' hd.size (fun k hk => by cases hk); refine hK.out _ _ (.inl hH1) (fun _ => ?_); clear hK K; have hd := hH1
    try simp only [Act.put, lgA, lgS, lgZ, lsA, lsZ, lsS]
    refine wpAnyX_ready (rs := [9]) (by kernel_rfl) (by simp) ?_; refine AllReadyX.cons rfl (fun K hK => ?_) AllReadyX.nil; refine step10 rfl (wp_build_cel (.tmp 66) rfl (cellsE X0).toArray SX.out (by kernel_rfl) ?_); have hH2 := hd.alloc hd.size (.cells (cellsE X0).toArray 58); refine hK.out _ _ (.inl hH2) (fun _ => ?_); clear hK K; have hd := hH2; have o1' : OwnR rowE u.heap.size v1 (E.take q) (w1.alloc (.cells (cellsE X0).toArray 58)) := ownR_below (by simpa using o1) ((Below.refl w1.heap.size w1).alloc (Nat.le_refl _) _)
    try simp only [Act.put, lgA, lgS, lgZ, lsA, lsZ, lsS]
    refine wpAnyX_ready (rs := [10]) (by kernel_rfl) (by simp) ?_; refine AllReadyX.cons rfl (fun K hK => ?_) AllReadyX.nil; refine step10 rfl (wp_append_anyR goodE (.tmp 65) (.tmp 67) rfl u.heap.size v1 (E.take q) [X0] (some ⟨w1.heap.size, 0, none⟩) 1 1 (by kernel_rfl) (by kernel_rfl) rfl (row_one (heap_alloc_new w1 _)) (fun x hx => by rw [List.mem_singleton.1 hx]; exact OKX.out) (fun x hx => (KE.out _ hd).ok x (List.mem_of_mem_take hx)) o1' (by rw [List.length_take, HEN.out]; simp only [List.length_cons, List.length_nil]; omega) hd.size (fun v2 w2 o2 g2' => ?_)); have hH3 := hd.grown g2' hd.size (fun j hj => (World.ownsRow.lt o1' j hj).1); refine hK.out _ _ (.inl hH3) (fun _ => ?_); clear hK K; have hd := hH3
    try simp only [Act.put, lgA, lgS, lgZ, lsA, lsZ, lsS]
    refine wpAnyX_ready (rs := [17]) (by kernel_rfl) (by simp) ?_; refine AllReadyX.cons rfl (fun K hK => ?_) AllReadyX.nil; refine step10 rfl (wp_append_anyR goodE (.tmp 68) (.tmp 74) rfl u.heap.size v2 (E.take q ++ [X0]) (E.drop q) at' (m - q) (c1 - q) (by kernel_rfl) (by kernel_rfl) (by rw [List.length_drop, HEN.out]) (HRT.out _ (KE.out _ hd).row) (fun x hx => (KE.out _ hd).ok x (List.mem_of_mem_drop hx)) (fun x hx => (List.mem_append.1 hx).elim (fun h => (KE.out _ hd).ok x (List.mem_of_mem_take h)) (fun h => by rw [List.mem_singleton.1 h]; exact OKX.out)) o2 (by rw [List.length_append, List.length_take, List.length_drop, HEN.out]; simp only [List.length_cons, List.length_nil]; omega) hd.size (fun v3 w3 o3 g3' => ?_)); have hH4 := hd.grown g3' hd.size (fun j hj => (World.ownsRow.lt o2 j hj).1); refine hK.out _ _ (.inl hH4) (fun _ => ?_); clear hK K; have hd := hH4
    try simp only [Act.put, lgA, lgS, lgZ, lsA, lsZ, lsS]
    refine wpAnyX_takeP (i := 18) (v := .pointer (some ⟨g, 0, none⟩)) rfl (by kernel_rfl) (by kernel_rfl) (by kernel_rfl) rfl (fun _ _ _ h => h) (Or.inl ⟨by kernel_rfl, ?at18⟩) ?_
    case at18 => intro u' hu; go_simp; try with_reducible rfl
    try simp only [Act.put, lgA, lgS, lgZ, lsA, lsZ, lsS]
    refine wpAnyX_takeP (i := 19) (v := .pointer (some ⟨g, 0, none⟩)) rfl (by kernel_rfl) (by kernel_rfl) (by kernel_rfl) rfl (fun _ _ _ h => h) (Or.inl ⟨by kernel_rfl, ?at19⟩) ?_
    case at19 => intro u' hu; go_simp; try with_reducible rfl
    try simp only [Act.put, lgA, lgS, lgZ, lsA, lsZ, lsS]
    have hlen : (E.take q ++ [X0] ++ E.drop q).length = m + 1 := by
     rw [List.length_append, List.length_append, List.length_take, List.length_drop, HEN.out]; simp only [List.length_cons, List.length_nil]; have := HQL.out; omega
    have hokl : ∀ x ∈ E.take q ++ [X0] ++ E.drop q, rowE.ok x := fun x hx => (List.mem_append.1 hx).elim (fun hx => (List.mem_append.1 hx).elim (fun h => (KE.out _ hd).ok x (List.mem_of_mem_take h)) (fun h => by rw [List.mem_singleton.1 h]; exact OKX.out)) (fun h => (KE.out _ hd).ok x (List.mem_of_mem_drop h))
    have hsh3 := ownR_shape goodE o3 hokl; obtain ⟨a3, c3, e3, -⟩ := hsh3; rw [hlen] at e3; subst e3; have HG3 := hyd ((hd.block g (lt_of_heap HBK.out)).trans HBK.out); refine wpAnyX_ready (rs := [20]) (by kernel_rfl) (by simp) ?_; refine AllReadyX.cons rfl (fun K hK => ?_) AllReadyX.nil; refine step10 rfl (wp_store_one10 28 (.tmp 77) (.tmp 75) rfl g a3 (m + 1) c3 (by kernel_rfl) (by kernel_rfl) 30 (.slice a1 m c1) HG3.out infoLE (fun u9 r9 off9 sz9 => ?_)); refine hK.out _ _ (.inr rfl) (fun _ => ?_); clear hK K
    try simp only [Act.put, lgA, lgS, lgZ, lsA, lsZ, lsS]
    refine wpAnyX_done (by kernel_rfl) ?_ _; have hgu : g < u.heap.size := lt_of_heap HBK.out; refine ⟨v1, w1.heap.size, v2, a3, c3, ?_, r9, ⟨off9.os.trans hd.os, off9.tape.trans hd.tape, off9.output.trans hd.output, by rw [sz9]; exact hd.size, fun j hj hn => (off9.block j (Nat.lt_of_lt_of_le hj hd.size) hn).trans (hd.block j hj)⟩, ownR_same o3 (fun j hj => off9.block j (World.ownsRow.lt o3 j hj).2 (by have := (World.ownsRow.lt o3 j hj).1; omega))⟩
    go_simp
   ·refine step10 rfl (wp_build_cel (.tmp 66) rfl (cellsE X0).toArray SX.out (by kernel_rfl) ?_)
    have hH2 := hd.alloc hd.size (.cells (cellsE X0).toArray 58); refine hK.out _ _ (.inl hH2) (fun _ => ?_); clear hK K; have hd := hH2; have hgX := heap_alloc_new u.drew (.cells (cellsE X0).toArray 58)
    try simp only [Act.put, lgA, lgS, lgZ, lsA, lsZ, lsS]
    refine wpAnyX_ready (rs := [7]) (by kernel_rfl) (by simp) ?_; refine AllReadyX.cons rfl (fun K hK => ?_) AllReadyX.nil; refine step10 rfl (wp_append_anyR goodE (.const (.slice none 0 0)) (.tmp 64) rfl u.heap.size (.slice none 0 0) [] (E.take q) a1 q c1 rfl (by kernel_rfl) (by rw [List.length_take, HEN.out]; exact (Nat.min_eq_left HQL.out).symm) ((KE.out _ hd).row.take q) (fun x hx => (KE.out _ hd).ok x (List.mem_of_mem_take hx)) (fun x hx => by cases hx) (ownR_nil _ _) (by rw [List.length_take, HEN.out, List.length_nil]; omega) hd.size (fun v1 w1 o1 g1' => ?_)); have hH1 := hd.grown g1' hd.size (fun k hk => by cases hk)
    have hgX1 := ((Below.refl (u.drew.alloc (.cells (cellsE X0).toArray 58)).heap.size _).grown g1' (Nat.le_refl _) (fun k hk => by cases hk)).block u.drew.heap.size (lt_of_heap hgX) |>.trans hgX
    refine hK.out _ _ (.inl hH1) (fun _ => ?_); clear hK K; have hd := hH1
    have o1' : OwnR rowE u.heap.size v1 (E.take q) w1 := by simpa using o1
    try simp only [Act.put, lgA, lgS, lgZ, lsA, lsZ, lsS]
    refine wpAnyX_ready (rs := [10]) (by kernel_rfl) (by simp) ?_; refine AllReadyX.cons rfl (fun K hK => ?_) AllReadyX.nil; refine step10 rfl (wp_append_anyR goodE (.tmp 65) (.tmp 67) rfl u.heap.size v1 (E.take q) [X0] (some ⟨u.drew.heap.size, 0, none⟩) 1 1 (by kernel_rfl) (by kernel_rfl) rfl (row_one hgX1) (fun x hx => by rw [List.mem_singleton.1 hx]; exact OKX.out) (fun x hx => (KE.out _ hd).ok x (List.mem_of_mem_take hx)) o1' (by rw [List.length_take, HEN.out]; simp only [List.length_cons, List.length_nil]; omega) hd.size (fun v2 w2 o2 g2' => ?_)); have hH3 := hd.grown g2' hd.size (fun j hj => (World.ownsRow.lt o1' j hj).1); refine hK.out _ _ (.inl hH3) (fun _ => ?_); clear hK K; have hd := hH3
    try simp only [Act.put, lgA, lgS, lgZ, lsA, lsZ, lsS]
    refine wpAnyX_ready (rs := [17]) (by kernel_rfl) (by simp) ?_; refine AllReadyX.cons rfl (fun K hK => ?_) AllReadyX.nil; refine step10 rfl (wp_append_anyR goodE (.tmp 68) (.tmp 74) rfl u.heap.size v2 (E.take q ++ [X0]) (E.drop q) at' (m - q) (c1 - q) (by kernel_rfl) (by kernel_rfl) (by rw [List.length_drop, HEN.out]) (HRT.out _ (KE.out _ hd).row) (fun x hx => (KE.out _ hd).ok x (List.mem_of_mem_drop hx)) (fun x hx => (List.mem_append.1 hx).elim (fun h => (KE.out _ hd).ok x (List.mem_of_mem_take h)) (fun h => by rw [List.mem_singleton.1 h]; exact OKX.out)) o2 (by rw [List.length_append, List.length_take, List.length_drop, HEN.out]; simp only [List.length_cons, List.length_nil]; omega) hd.size (fun v3 w3 o3 g3' => ?_)); have hH4 := hd.grown g3' hd.size (fun j hj => (World.ownsRow.lt o2 j hj).1); refine hK.out _ _ (.inl hH4) (fun _ => ?_); clear hK K; have hd := hH4
    try simp only [Act.put, lgA, lgS, lgZ, lsA, lsZ, lsS]
    refine wpAnyX_takeP (i := 18) (v := .pointer (some ⟨g, 0, none⟩)) rfl (by kernel_rfl) (by kernel_rfl) (by kernel_rfl) rfl (fun _ _ _ h => h) (Or.inl ⟨by kernel_rfl, ?at18⟩) ?_
    case at18 => intro u' hu; go_simp; try with_reducible rfl
    try simp only [Act.put, lgA, lgS, lgZ, lsA, lsZ, lsS]
    refine wpAnyX_takeP (i := 19) (v := .pointer (some ⟨g, 0, none⟩)) rfl (by kernel_rfl) (by kernel_rfl) (by kernel_rfl) rfl (fun _ _ _ h => h) (Or.inl ⟨by kernel_rfl, ?at19⟩) ?_
    case at19 => intro u' hu; go_simp; try with_reducible rfl
    try simp only [Act.put, lgA, lgS, lgZ, lsA, lsZ, lsS]
    have hlen : (E.take q ++ [X0] ++ E.drop q).length = m + 1 := by
     rw [List.length_append, List.length_append, List.length_take, List.length_drop, HEN.out]; simp only [List.length_cons, List.length_nil]; have := HQL.out; omega
    have hokl : ∀ x ∈ E.take q ++ [X0] ++ E.drop q, rowE.ok x := fun x hx => (List.mem_append.1 hx).elim (fun hx => (List.mem_append.1 hx).elim (fun h => (KE.out _ hd).ok x (List.mem_of_mem_take h)) (fun h => by rw [List.mem_singleton.1 h]; exact OKX.out)) (fun h => (KE.out _ hd).ok x (List.mem_of_mem_drop h))
    have hsh3 := ownR_shape goodE o3 hokl; obtain ⟨a3, c3, e3, -⟩ := hsh3; rw [hlen] at e3; subst e3; have HG3 := hyd ((hd.block g (lt_of_heap HBK.out)).trans HBK.out); refine wpAnyX_ready (rs := [20]) (by kernel_rfl) (by simp) ?_; refine AllReadyX.cons rfl (fun K hK => ?_) AllReadyX.nil; refine step10 rfl (wp_store_one10 28 (.tmp 77) (.tmp 75) rfl g a3 (m + 1) c3 (by kernel_rfl) (by kernel_rfl) 30 (.slice a1 m c1) HG3.out infoLE (fun u9 r9 off9 sz9 => ?_)); refine hK.out _ _ (.inr rfl) (fun _ => ?_); clear hK K
    try simp only [Act.put, lgA, lgS, lgZ, lsA, lsZ, lsS]
    refine wpAnyX_done (by kernel_rfl) ?_ _; have hgu : g < u.heap.size := lt_of_heap HBK.out; refine ⟨v1, u.drew.heap.size, v2, a3, c3, ?_, r9, ⟨off9.os.trans hd.os, off9.tape.trans hd.tape, off9.output.trans hd.output, by rw [sz9]; exact hd.size, fun j hj hn => (off9.block j (Nat.lt_of_lt_of_le hj hd.size) hn).trans (hd.block j hj)⟩, ownR_same o3 (fun j hj => off9.block j (World.ownsRow.lt o3 j hj).2 (by have := (World.ownsRow.lt o3 j hj).1; omega))⟩
    go_simp
  ·rintro a' u9 ⟨v1, gl, v2, a3, c3, rfl, hg9, off9, own9⟩
   simp only [Act.put, lsA, lsZ, lsS]; have HX := hyd (And.intro HB7.out.size (And.intro (lt_of_heap H42.out) (And.intro (lt_of_heap R6.out) (And.intro HNW.out.low.size HGW.out))) : w.heap.size ≤ u.heap.size ∧ w.heap.size + 1 < w4.heap.size ∧ w4.heap.size < w6.heap.size ∧ w6.heap.size ≤ u.heap.size ∧ g < w.heap.size); have OFF := hyd ((off_of HB7.out).trans off9); have R9 := hyd ((off9.block w4.heap.size (by have := HX.out; omega) (by have := HX.out; omega)).trans ((HNW.out.low.block w4.heap.size (lt_of_heap R6.out)).trans R6.out)); have H92 := hyd ((off9.block (w.heap.size + 1) (by have := HX.out; omega) (by have := HX.out; omega)).trans ((HNW.out.low.block (w.heap.size + 1) (lt_of_heap H62.out)).trans H62.out)); have HG9 := hyd hg9; have OWN9 := hyd own9; have OFF9 := hyd off9; have HMX := hyd hmax; have HLE := hyd hle; have HM1 := hyd hm; have HFF := hyd hf; clear hg9 off9 own9 hmax hle hm hf g1 g1b hqle hsh pg y0 y1 hzcv hzv
   go_wp2_with (first
    | (with_reducible refine wpList_load_all 24 (.tmp 8) rfl (by kernel_rfl) w4.heap.size ci.toArray 24 (0, 0) rfl R9.out _ Tryz.underlying24 rfl II.out ?_)
    | (with_reducible refine wpList_store_all rfl 24 (.tmp 4) (.tmp 78) rfl (w.heap.size + 1) ci.toArray rfl rfl 24 z H92.out II.out (IS.out.trans ZS.out.symm) IO.out ?_)
    | fail)
   intro w8 r8 off8 sz8; go_wp2; obtain ⟨hwu, h4, h46, h6u, gW⟩ := HX.out; have off : Off g w w8 := ⟨off8.os.trans OFF.out.os, off8.tape.trans OFF.out.tape, off8.output.trans OFF.out.output, Nat.le_trans OFF.out.size off8.size, fun k hk hn => (off8.block k (Nat.lt_of_lt_of_le hk OFF.out.size) (by omega)).trans (OFF.out.block k hk hn)⟩; have hu9 : u.heap.size ≤ u9.heap.size := OFF9.out.size; refine bodyPost_ret (results_id9 Tryz.results8 _ _ (w.heap.size + 1) ci.toArray (0, 0) _ rfl rfl r8 IS.out) rfl ⟨by rw [← HI.out]; rfl, ?_, off⟩; rw [HQ.out]
   have hst := store_put hg HE.out HC0.out gW HM2.out HQL.out off ((off8.block g (by omega) (by omega)).trans HG9.out) (ownR_same OWN9.out (fun j hj => off8.block j (World.ownsRow.lt OWN9.out j hj).2 (by have := (World.ownsRow.lt OWN9.out j hj).1; omega))) hwu OKX.out (by
    rw [HX1.out]; refine row_redS (HNW.out.row.keep fun j hj => ?_) (fun j hj => ?_)
    ·have hl := HNW.out.row.lt j hj
     have hf := (HNW.out.far j hj).1; exact (off8.block j (by omega) (by omega)).trans (OFF9.out.block j hl (by omega))
    ·have hf := (HNW.out.far j hj).1
     omega)
   rw [HX1.out] at hst; exact hst
def BIn (D : Nat → Prop) (w : World) (a : Option Addr) (l : List UInt8) : Prop :=
 0 < l.length → ∃ b o, a = some ⟨b, o, none⟩ ∧ D b ∧ b < w.heap.size ∧ ∀ i (h : i < l.length), w.cell? ⟨b, o + i, none⟩ = some (.int .u8 (l[i]).toNat)
theorem BIn.bat {D : Nat → Prop} {w : World} {a : Option Addr} {l : List UInt8} (h : BIn D w a l) : BAt w a l := fun hp => by
 obtain ⟨b, o, h1, _, h2, h3⟩ := h hp; exact ⟨b, o, h1, h2, h3⟩
def PartsIn (D : Nat → Prop) (w : World) (pa : Option Addr) (ls : List (List UInt8)) : Prop :=
 0 < ls.length → ∃ b o, pa = some ⟨b, o, none⟩ ∧ D b ∧ b < w.heap.size ∧ ∀ i (h : i < ls.length), ∃ a c, w.cell? ⟨b, o + i, none⟩ = some (.slice a (ls[i]).length c) ∧ BIn D w a ls[i] ∧ (a = none → (ls[i]).length = 0 ∧ c = 0) ∧ (ls[i]).length ≤ maxLen
def total (ls : List (List UInt8)) : Nat := ls.flatten.length
theorem total_step (ls : List (List UInt8)) (k : Nat) (h : k < ls.length) : total (ls.take (k + 1)) = total (ls.take k) + (ls[k]).length := by
 unfold total; rw [List.take_succ_eq_append_getElem h, List.flatten_append, List.length_append]; simp only [List.flatten_cons, List.flatten_nil, List.append_nil]
theorem total_le (ls : List (List UInt8)) (k : Nat) : total (ls.take k) ≤ total ls := by
 unfold total
 have e : ls.flatten = (ls.take k).flatten ++ (ls.drop k).flatten := by rw [← List.flatten_append, List.take_append_drop]
 rw [e, List.length_append]; omega
end Go.Proofs.YtnbcbiglkmdepaaGreatDoor
