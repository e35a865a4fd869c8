/-
  Texts that belong together, one behind the other.
-/
import Derived.Test.YtnbcbiglkmdepaaGreatDoorFu04
import Derived.Test.YtnbcbiglkmdepaaGreatDoorFu05
import Derived.Lib.Hide
import Derived.StillTailTactics
import Derived.RegionTactic
import Derived.Test.YtnbcbiglkmdepaaGreatDoorFu17
import Derived.Test.YtnbcbiglkmdepaaGreatDoorFu06
import Derived.Test.YtnbcbiglkmdepaaGreatDoorFu18
import Derived.Test.YtnbcbiglkmdepaaGreatDoorFu16
import Derived.Test.YtnbcbiglkmdepaaGreatDoorFu07
import Derived.Test.YtnbcbiglkmdepaaGreatDoorFu12
import Derived.Test.YtnbcbiglkmdepaaGreatDoorFu01
import Derived.Laws.AppendOwnNone
import Derived.Deep.CutRange
import Derived.Deep.QuietTactic
import Derived.BigQuiet
set_option maxHeartbeats 64000000
set_option linter.unusedVariables false
set_option linter.unusedSimpArgs false
open Go.Lib renaming hid → hyd
namespace Go.Proofs.YtnbcbiglkmdepaaGreatDoor
open Go.RowKit
theorem heap_put {w : World} {b k : Nat} {cs : Array Value} {t : TypeId} {fr : Nat × Nat} (h : w.heap[b]? = some (.cells cs t fr)) (x : Value) : (w.setCell ⟨b, k, none⟩ x).heap[b]? = some (.cells (cs.setIfInBounds k x) t fr) := by
 rw [setCell_eq_setRow w b k cs _ _ x h]; exact setRow_heap w b cs _ _ _ h
theorem Spoil_some (g n c : Nat) (w : World) (cur : Array Value) (hg : w.heap[g]? = some (.cells cur 5 (0, 0))) (hn : n ≤ 16777216) (hc : ∀ i, i < n → ∃ x : Int, cur[i]? = some (.int .u8 x)) :
  Calls Tryz.prog 10 #[.slice (some ⟨g, 0, none⟩) n c] w fun e w' => e = .returned (.tuple #[]) ∧ Chg (fun k => k = g) w w' := by
 have HG := hyd hg; have HC := hyd hc; clear hg hc
 go_enter Tryz.func10, Tryz.ntmps10
 go_wp2_with fail
 go_loopw [2] (fun i wr => ∃ (k : Nat) (cur : Array Value), k ≤ n ∧ i = .int .i64 k ∧ wr.heap[g]? = some (.cells cur 5 (0, 0)) ∧ (∀ i, i < n → ∃ x : Int, cur[i]? = some (.int .u8 x)) ∧ Chg (fun k => k = g) w wr) (fun i _ => n - (intOf i).toNat)
 case atStart => exact ⟨0, cur, Nat.zero_le _, rfl, HG.out, HC.out, Chg.refl _ _⟩
 case round =>
  obtain ⟨k, cur, hk, rfl, hg, hc, hch⟩ := hrel
  by_cases hlt : k < n
  ·obtain ⟨x, hx⟩ := hc k hlt
   have c1 : wr.cell? ⟨g, k, none⟩ = some (.int .u8 x) := (cell_of_row wr g k _ _ _ hg).trans hx
   have f1 : wr.frozen? ⟨g, k, none⟩ = false := by simp [World.frozen?, hg]
   have s1 := fun y => heap_put hg (k := k) y
   have hc2 : ∀ y : Int, ∀ i, i < n → ∃ x : Int, (cur.setIfInBounds k (.int .u8 y))[i]? = some (.int .u8 x) := fun y i hi => by
    rw [Array.getElem?_setIfInBounds]
    split
    ·exact ⟨y, by rw [if_pos]; subst_vars; exact (Array.getElem?_eq_some_iff.1 hx).1⟩
    ·exact hc i hi
   have HS := hyd s1; have HC2 := hyd hc2; have HCH := hyd hch; clear hg hc hch hx s1 hc2; go_wp2
   go_roundw
   case rel => exact ⟨k + 1, _, by omega, by go_num, HS.out _, HC2.out _, HCH.out.setCell _ (fun _ => rfl) _⟩
   case measure => simp [intOf]; omega
  ·obtain rfl : k = n := by omega
   have HCH := hyd hch; clear hg hc hch; go_wp2
   first | go_end0 | (simp only [Exit.inBlock, Exit.then]; refine bodyPost_ret (results_none rfl _ _ _) rfl ?_) | refine bodyPost_ret (results_none rfl _ _ _) rfl ?_
   exact ⟨rfl, HCH.out⟩
theorem Spoil_none (a : Option Addr) (c : Nat) (w : World) :
  Calls Tryz.prog 10 #[.slice a 0 c] w fun e w' => e = .returned (.tuple #[]) ∧ w = w' := by
 go_enter Tryz.func10, Tryz.ntmps10
 go_wp2_with fail
 refine wp_loop_rounds 1 ?_; rw [rounds_succ]; go_wp2
 first | go_end0 | (simp only [Exit.inBlock, Exit.then]; refine bodyPost_ret (results_none rfl _ _ _) rfl ?_) | refine bodyPost_ret (results_none rfl _ _ _) rfl ?_
 exact ⟨rfl, rfl⟩
theorem Spoil_row (v : Value) (l : List UInt8) (w : World) (h : Row w v l) (hl : l.length ≤ 16777216) :
  Calls Tryz.prog 10 #[v] w fun e w' => e = .returned (.tuple #[]) ∧ Chg (fun k => foot v = some k) w w' := by
 rcases h with ⟨a, rfl, rfl⟩ | ⟨g, cap, cur, rfl, hg, h1, h2, h3, h4⟩
 ·refine (Spoil_none a 0 w).mono ?_
  rintro e w' ⟨rfl, rfl⟩; exact ⟨rfl, Chg.refl _ _⟩
 ·refine (Spoil_some g l.length (cap + 1) w cur hg hl (fun i hi => ?_)).mono ?_
  ·have e : (cur.toList.take l.length)[i]? = (Lib.byteCells l)[i]? := by rw [h4]
   rw [List.getElem?_take, if_pos hi, byteCells_at, List.getElem?_eq_getElem hi, Array.getElem?_toList] at e; exact ⟨_, e⟩
  ·rintro e w' ⟨rfl, h⟩
   exact ⟨rfl, h.weak fun i _ hi => by rw [foot_succ, hi]⟩
set_option maxRecDepth 20000
theorem Record_same (t : List UInt8) (a1 a2 : Option Addr) (n c1 c2 : Nat) (l : List (List UInt8)) (a c : Idt) (x : List UInt8) (w : World) (ht : t.length = 20) (h1 : IdsAt w a1 l) (h2 : IdsAt w a2 l) (hn : n = l.length) (hm : n ≤ 1000000) (hid : ∀ i ∈ l, i.length = 20) :
  Calls Tryz.prog 35 #[.agg (arrC t (.slice a1 n c1) a c x), .agg (arrC t (.slice a2 n c2) a c x)] w fun e w' => e = .returned (.bool true) ∧ Below w.heap.size w w' := by
 obtain ⟨A1, hA1⟩ : ∃ A, arrC t (.slice a1 n c1) a c x = A := ⟨_, rfl⟩; obtain ⟨A2, hA2⟩ : ∃ A, arrC t (.slice a2 n c2) a c x = A := ⟨_, rfl⟩; have b1 := (Below.refl w.heap.size w).alloc (Nat.le_refl _) (.cells A1 72); have b2 := b1.alloc b1.size (.cells A2 72)
 have e1 : (w.alloc (.cells A1 72)).heap.size = w.heap.size + 1 := by simp
 have g1 := (((Below.refl (w.alloc (.cells A1 72)).heap.size (w.alloc (.cells A1 72))).alloc (Nat.le_refl _) (.cells A2 72)).block w.heap.size (by simp)).trans (heap_alloc_new w _); have g2 := heap_alloc_new (w.alloc (.cells A1 72)) (.cells A2 72); rw [e1] at g2; have r1 := recAt_of (ty := 72) (fr := (0, 0)) (v := .slice a1 n c1) (a := a) (c := c) (x := x) ht (by rw [hA1]; exact g1); have r2 := recAt_of (ty := 72) (fr := (0, 0)) (v := .slice a2 n c2) (a := a) (c := c) (x := x) ht (by rw [hA2]; exact g2); have P := hyd (fun u (hb : Below w.heap.size w u) => PlainIds_any a1 a2 n c1 c2 l u (h1.keep hb) (h2.keep hb) hn hm hid)
 have ED := fun u => eql_arrD t t ht ht u
 rw [eqD_same] at ED
 have EA := fun u => eql_idt_same a u
 have EC := fun u => eql_idt_same c u
 have LD := hyd (show (Tryz.prog.info? 24).map (·.size) = some (cellsD t).length by rw [cellsD_len t ht]; exact infoD_n); have LA := hyd (show (Tryz.prog.info? 70).map (·.size) = some (cellsT a).length from infoT); have LC := hyd (show (Tryz.prog.info? 70).map (·.size) = some (cellsT c).length from infoT); unfold arrD at ED; rw [hA1, hA2]; have R1 := hyd r1; have R2 := hyd r2; have B2 := hyd b2; have p1 := r1.parents; have p2 := r2.parents; clear hA1 hA2 b1 b2 e1 g1 g2 r1 r2 h1 h2 hn hid ht; have K := hyd (fun u (hb : Below ((w.alloc (.cells A1 72)).alloc (.cells A2 72)).heap.size ((w.alloc (.cells A1 72)).alloc (.cells A2 72)) u) => And.intro (R1.out.keep hb) (R2.out.keep hb)); have R1' := hyd (And.intro R1.out.tree R1.out.text); have R2' := hyd (And.intro R2.out.tree R2.out.text)
 generalize cellsD t = cd at *
 go_enter Tryz.func35, Tryz.ntmps35
 go_wp2_with (first
  | (with_reducible refine wpList_load_mid rfl 24 (.tmp 5) rfl w.heap.size 0 rfl cd _ R1'.out.1 Tryz.underlying24 rfl LD.out ?_)
  | (with_reducible refine wpList_load_mid rfl 24 (.tmp 7) rfl (w.heap.size + 1) 0 rfl cd _ R2'.out.1 Tryz.underlying24 rfl LD.out ?_))
 refine (P.out _ B2.out).mono ?_; rintro e w3 ⟨rfl, hb3⟩; obtain ⟨k1, k2⟩ := K.out _ hb3; have HB3 := hyd (B2.out.trans (hb3.mono B2.out.size)); have ha1 := hyd k1.author; have ha2 := hyd k2.author; have hc1 := hyd k1.committer; have hc2 := hyd k2.committer; have x1 := k1.text; have x2 := k2.text; clear k1 k2 hb3 p1 p2 K
 generalize cellsT a = ca at *
 generalize cellsT c = cc at *
 go_wp2_with (first
  | (with_reducible refine wpList_load_midD 70 (.tmp 18) rfl (by kernel_rfl) w.heap.size 21 rfl ca _ ha1.out Tryz.underlying70 rfl LA.out ?_)
  | (with_reducible refine wpList_load_midD 70 (.tmp 20) rfl (by kernel_rfl) (w.heap.size + 1) 21 rfl ca _ ha2.out Tryz.underlying70 rfl LA.out ?_)
  | (with_reducible refine wpList_load_midD 70 (.tmp 25) rfl (by kernel_rfl) w.heap.size 25 rfl cc _ hc1.out Tryz.underlying70 rfl LC.out ?_)
  | (with_reducible refine wpList_load_midD 70 (.tmp 27) rfl (by kernel_rfl) (w.heap.size + 1) 25 rfl cc _ hc2.out Tryz.underlying70 rfl LC.out ?_))
 go_ret; exact ⟨rfl, HB3.out⟩
theorem Object_any (k1 k2 : Int) (v1 v2 : Value) (l1 l2 : List UInt8) (w : World) (h1 : Red w v1 l1) (h2 : Red w v2 l2) :
  Calls Tryz.prog 23 #[.agg #[.int .i64 k1, v1], .agg #[.int .i64 k2, v2]] w fun e w' => e = .returned (.bool (k1 == k2 && l1 == l2)) ∧ Below w.heap.size w w' := by
 obtain ⟨a1, c1, rfl, hb1, hn1, hc1, hm1⟩ := h1; obtain ⟨a2, c2, rfl, hb2, hn2, hc2, hm2⟩ := h2; have b1 := (Below.refl w.heap.size w).alloc (Nat.le_refl _) (.cells #[.int .i64 k1, .slice a1 l1.length c1] 34); have b2 := b1.alloc b1.size (.cells #[.int .i64 k2, .slice a2 l2.length c2] 34); have BB := hyd b2; have CB := hyd (Bytes_any a1 a2 _ _ c1 c2 l1 l2 _ (hb1.keep b2) (hb2.keep b2) rfl rfl); obtain ⟨n1, e1⟩ : ∃ n, l1.length = n := ⟨_, rfl⟩; obtain ⟨n2, e2⟩ : ∃ n, l2.length = n := ⟨_, rfl⟩; rw [e1, e2] at CB BB ⊢; clear b1 b2 hb1 hb2 hn1 hn2 hc1 hc2 hm1 hm2 e1 e2
 by_cases hk : k1 = k2
 ·subst hk
  have hr : (k1 == k1 && l1 == l2) = (l1 == l2) := by simp
  rw [hr]; obtain ⟨r, hr2⟩ : ∃ r, (l1 == l2) = r := ⟨_, rfl⟩; rw [hr2] at CB ⊢; clear hr hr2
  go_enter Tryz.func23, Tryz.ntmps23
  go_wp2_with fail
  refine CB.out.mono ?_; rintro e w1 ⟨rfl, rfl⟩; go_wp2; go_ret; exact ⟨rfl, BB.out⟩
 ·have hr : (k1 == k2 && l1 == l2) = false := by simp [hk]
  have hf : (k1 == k2) = false := beq_false_of_ne hk; rw [hr]; clear hr CB hk
  go_enter Tryz.func23, Tryz.ntmps23
  go_wp2; go_ret; exact ⟨rfl, BB.out⟩
theorem record_red10 (A B : Array Value) (c : Rcd) (w : World) (h : RecRed w A c) (k : RecRed w B c) (hm : c.parents.length ≤ 1000000) :
  Calls Tryz.prog 35 #[.agg A, .agg B] w fun e w' => e = .returned (.bool true) ∧ Below w.heap.size w w' := by
 obtain ⟨hf, pa, ca, rfl, _, _, hi, _⟩ := h; obtain ⟨_, pb, cb, rfl, _, _, hj, _⟩ := k; exact Record_same c.tree pa pb c.parents.length ca cb c.parents c.author c.committer c.text w hf.tree hi hj rfl hm hf.parents
theorem parsed_len10 (s : List UInt8) : (parsedR s).1.parents.length ≤ 16 := by
 unfold parsedR
 cases e : parseK s with
 | none => exact Nat.zero_le _
 | some c => exact ((rightR_iff c).1 (parse_onlyC wr9 e).2.1).2.1
theorem parsedT_len10 {b : List UInt8} {l : List Itm} {e : Int} (h : ParsedT b l e) : l.length ≤ b.length ∧ ∀ i ∈ l, i.id.length = 20 := by
 rcases h with ⟨_, h2, _⟩ | ⟨_, _, h3, h4, _⟩ | ⟨_, _, h3, _⟩
 ·subst h2; exact ⟨Nat.zero_le _, fun i hi => by cases hi⟩
 ·refine ⟨by rw [← h3]; exact flat_count l, fun i hi => (h4 i hi).2.2⟩
 ·subst h3; exact ⟨Nat.zero_le _, fun i hi => by cases hi⟩
theorem Red.keep10 {w u : World} {v : Value} {l : List UInt8} (h : Red w v l) (hb : Below w.heap.size w u) : Red u v l := h.below hb (Nat.le_refl _)
theorem treeS_same {o : Option Cel} {p q : List Itm} {e f : Int} (h : TreeS o p e) (k : TreeS o q f) : q = p ∧ f = e := by
 unfold TreeS at h k
 by_cases h0 : (ofS o 2).2 = 0
 ·rw [if_pos h0] at h k
  exact parsedT_same h k
 ·rw [if_neg h0] at h k
  exact ⟨k.1.trans h.1.symm, k.2.trans h.2.symm⟩
theorem treeS_len {o : Option Cel} {p : List Itm} {e : Int} (hb : ∀ c, o = some c → c.body.length ≤ 65536) (h : TreeS o p e) : p.length ≤ 65536 ∧ ∀ i ∈ p, i.id.length = 20 := by
 unfold TreeS at h
 by_cases h0 : (ofS o 2).2 = 0
 ·rw [if_pos h0] at h
  have := ofS_len (k := 2) hb; exact ⟨Nat.le_trans (parsedT_len10 h).1 this, (parsedT_len10 h).2⟩
 ·rw [if_neg h0] at h
  rw [h.1]; exact ⟨Nat.zero_le _, fun i hi => by cases hi⟩
theorem comS_few (o : Option Cel) : (comS o).1.parents.length ≤ 1000000 := by
 unfold comS
 by_cases h0 : (ofS o 3).2 = 0
 ·rw [if_pos h0]; exact Nat.le_trans (parsed_len10 _) (by omega)
 ·rw [if_neg h0]; exact Nat.zero_le _
theorem gotB_len {o : Option Cel} (hb : ∀ c, o = some c → c.body.length ≤ 65536) : (gotB o).length ≤ 65536 := by
 cases o with
 | none => exact Nat.zero_le _
 | some c => exact hb c rfl
theorem alike_is {Sp Sr : Nat → Prop} {w : World} {g q : Nat} {M L : List Cel} (hp : StoreP Sp w g M) (hr : StoreAt Sr w q L) (hML : M.Perm L) (hs : SrtS L) (hL : L.length ≤ 1000000) (hbl : ∀ c ∈ L, c.body.length ≤ 65536) (i : List UInt8) (hi : i.length = 20) (tab : T10 w) :
  Calls Tryz.prog 12 #[.pointer (some ⟨g, 0, none⟩), .pointer (some ⟨q, 0, none⟩), .agg (arrD i)] w fun e w' => e = .returned (.bool true) ∧ Below w.heap.size w w' := by
 have em := getM_getS hML hs i
 have hob : ∀ c, getS L i = some c → c.body.length ≤ 65536 := fun c hc => hbl c (getS_mem hc)
 have CG := fun u (hu : Below w.heap.size w u) => GetP_is (hp.below hu) i hi (by rw [em]; exact hob)
 have CT := fun u (hu : Below w.heap.size w u) => TreeP_is (hp.below hu) i hi (tab.keep hu).q
 have CC := fun u (hu : Below w.heap.size w u) => CommitP_is (hp.below hu) i hi (by rw [em]; exact hob) (tab.keep hu).t7
 have CB := fun u (hu : Below w.heap.size w u) => BlobP_is (hp.below hu) i hi (by rw [em]; exact hob)
 have RG := fun u (hu : Below w.heap.size w u) => rGet_is (hr.below hu) i hi hL
 have RT := fun u (hu : Below w.heap.size w u) => rTree_is (hr.below hu) i hi hL (tab.keep hu).q
 have RC := fun u (hu : Below w.heap.size w u) => rCommit_is (hr.below hu) i hi hL hob (tab.keep hu).t7.t6
 have RB := fun u (hu : Below w.heap.size w u) => rBlob_is (hr.below hu) i hi hL
 rw [em] at CG CT CC CB; obtain ⟨ob, hoq⟩ : ∃ ob, getS L i = ob := ⟨_, rfl⟩; rw [hoq] at CG CT CC CB RG RT RC RB hob; obtain ⟨A1, hA1⟩ : ∃ A, arrD i = A := ⟨_, rfl⟩
 have sA : A1.size = 20 := by rw [← hA1]; exact arrD_size i hi
 rw [hA1] at CG CT CC CB RG RT RC RB ⊢; have HOB := hyd hob; have LEN := hyd (gotB_len hob); have LEN1 := hyd (ofS_len (k := 1) hob); have FEW := hyd (comS_few ob); obtain ⟨kk, hkk⟩ : ∃ kk, gotK ob = kk := ⟨_, rfl⟩; obtain ⟨bb, hbb⟩ : ∃ bb, gotB ob = bb := ⟨_, rfl⟩; obtain ⟨is, his⟩ : ∃ is, ob.isSome = is := ⟨_, rfl⟩; obtain ⟨xb, hxb⟩ : ∃ xb, (ofS ob 1).1 = xb := ⟨_, rfl⟩; obtain ⟨xe, hxe⟩ : ∃ xe, (ofS ob 1).2 = xe := ⟨_, rfl⟩; obtain ⟨rc, hrc⟩ : ∃ rc, (comS ob).1 = rc := ⟨_, rfl⟩; obtain ⟨ce, hce⟩ : ∃ ce, (comS ob).2 = ce := ⟨_, rfl⟩; rw [hkk, hbb, his] at CG RG; rw [hxb, hxe] at CB RB; rw [hrc, hce] at CC RC; rw [hbb] at LEN; rw [hxb] at LEN1; rw [hrc] at FEW; have CG := hyd CG; have CT := hyd CT; have CC := hyd CC; have CB := hyd CB; have RG := hyd RG; have RT := hyd RT; have RC := hyd RC; have RB := hyd RB; have IA := hyd (show (Tryz.prog.info? 24).map (·.size) = some A1.size from by rw [sA]; exact infoD_n); obtain ⟨rz, hr0, hrs, hrv, hrb, hr1⟩ := zRec_any; have RS := hyd hrs; have bx := (Below.refl w.heap.size w).alloc (Nat.le_refl _) (.cells A1 24); have h0 := heap_alloc_new w (.cells A1 24); have HB0 := hyd bx; have HI0 := hyd h0; clear hp hr hML hs hL hbl hi tab em hob hoq hA1 sA hkk hbb his hxb hxe hrc hce hr0 hrs hrb hr1 bx h0
 go_enter Tryz.func12, Tryz.ntmps12
 go_wp2_with (first
  | (with_reducible refine wpList_load_all 24 (.tmp 5) rfl (by kernel_rfl) w.heap.size A1 24 (0, 0) rfl HI0.out _ Tryz.underlying24 rfl IA.out ?_)
  | fail)
 refine (CG.out _ HB0.out).mono ?_; rintro e w1 ⟨v1, rfl, row1, far1, hb1⟩; obtain ⟨a1, c1, e1, -⟩ := row1.shape; obtain ⟨n1, hn1⟩ : ∃ n1, bb.length = n1 := ⟨_, rfl⟩; rw [hn1] at e1; subst e1; have HN1 := hyd hn1; have FA1 := hyd (fun j hj => (⟨Nat.le_trans HB0.out.size (far1 j hj), row1.lt j hj⟩ : w.heap.size ≤ j ∧ j < w1.heap.size)); have HB1 := hyd (HB0.out.trans (hb1.mono HB0.out.size)); have HI1 := hyd ((hb1.block _ (lt_of_heap HI0.out)).trans HI0.out); clear HI0; have V1R1 := hyd row1; clear hb1 row1 far1 hn1
 go_wp2_with (first
  | (with_reducible refine wpList_store_obj rfl (.tmp 7) (.tmp 28) rfl w1.heap.size (.int .i64 kk) (.slice a1 n1 c1) (.int .i64 0) (.slice none 0 0) rfl rfl (heap_alloc_new w1 _) (one_obj _ _ _ _) ?_)
  | fail)
 intro w2 r2 bl2 off2 sz2; have b2 : Below w1.heap.size w1 w2 := bl2 _ _ (Nat.le_refl _) ((Below.refl w1.heap.size w1).alloc (Nat.le_refl _) (.cells #[.int .i64 0, .slice none 0 0] 34)); have HB2 := hyd (HB1.out.trans (b2.mono HB1.out.size)); have HI2 := hyd ((b2.block _ (lt_of_heap HI1.out)).trans HI1.out); have V1R2 := hyd (V1R1.out.keep (fun j hj => b2.block j (V1R1.out.lt j hj))); clear HI1 V1R1; have O12 := hyd r2; clear r2 bl2 off2 sz2 b2
 go_wp2_with (first
  | (with_reducible refine wpList_load_all 24 (.tmp 5) rfl (by kernel_rfl) w.heap.size A1 24 (0, 0) rfl HI2.out _ Tryz.underlying24 rfl IA.out ?_)
  | fail)
 refine (RG.out _ HB2.out).mono ?_; rintro e w3 ⟨v3, rfl, red3, hb3⟩; have red3 := red3.red; obtain ⟨a3, c3, e3, -⟩ := id red3; rw [HN1.out] at e3; subst e3; have HB3 := hyd (HB2.out.trans (hb3.mono HB2.out.size)); have HI3 := hyd ((hb3.block _ (lt_of_heap HI2.out)).trans HI2.out); have V1R3 := hyd (V1R2.out.keep (fun j hj => hb3.block j (V1R2.out.lt j hj))); have O13 := hyd ((hb3.block _ (lt_of_heap O12.out)).trans O12.out); clear HI2 V1R2 O12; have V3R3 := hyd red3; clear hb3 red3
 go_wp2_with (first
  | (with_reducible refine wpList_store_obj rfl (.tmp 9) (.tmp 34) rfl w3.heap.size (.int .i64 kk) (.slice a3 n1 c3) (.int .i64 0) (.slice none 0 0) rfl rfl (heap_alloc_new w3 _) (one_obj _ _ _ _) ?_)
  | fail)
 intro w4 r4 bl4 off4 sz4; have b4 : Below w3.heap.size w3 w4 := bl4 _ _ (Nat.le_refl _) ((Below.refl w3.heap.size w3).alloc (Nat.le_refl _) (.cells #[.int .i64 0, .slice none 0 0] 34)); have HB4 := hyd (HB3.out.trans (b4.mono HB3.out.size)); have HI4 := hyd ((b4.block _ (lt_of_heap HI3.out)).trans HI3.out); have V1R4 := hyd (V1R3.out.keep (fun j hj => b4.block j (V1R3.out.lt j hj))); have O14 := hyd ((b4.block _ (lt_of_heap O13.out)).trans O13.out); have V3R4 := hyd (V3R3.out.keep10 b4); clear HI3 V1R3 O13 V3R3; have O34 := hyd r4; clear r4 bl4 off4 sz4 b4
 go_wp2_with (first
  | (with_reducible refine wpList_load_all 24 (.tmp 5) rfl (by kernel_rfl) w.heap.size A1 24 (0, 0) rfl HI4.out _ Tryz.underlying24 rfl IA.out ?_)
  | fail)
 refine (CT.out _ HB4.out).mono ?_; rintro e w5 ⟨v5, p5, e5, rfl, red5, ts5, hb5⟩; obtain ⟨a5, c5, ev5, -⟩ := id red5; subst ev5; have HB5 := hyd (HB4.out.trans (hb5.mono HB4.out.size)); have HI5 := hyd ((hb5.block _ (lt_of_heap HI4.out)).trans HI4.out); have V1R5 := hyd (V1R4.out.keep (fun j hj => hb5.block j (V1R4.out.lt j hj))); have O15 := hyd ((hb5.block _ (lt_of_heap O14.out)).trans O14.out); have V3R5 := hyd (V3R4.out.keep10 hb5); have O35 := hyd ((hb5.block _ (lt_of_heap O34.out)).trans O34.out); clear HI4 V1R4 O14 V3R4 O34; have V5R5 := hyd red5; have TS5 := hyd ts5; clear hb5 red5 ts5
 go_wp2_with (first
  | (with_reducible refine wpList_load_all 24 (.tmp 5) rfl (by kernel_rfl) w.heap.size A1 24 (0, 0) rfl HI5.out _ Tryz.underlying24 rfl IA.out ?_)
  | fail)
 refine (RT.out _ HB5.out).mono ?_; rintro e w6 ⟨v6, p6, e6, rfl, red6, ts6, hb6⟩; obtain ⟨hp56, he56⟩ := treeS_same TS5.out ts6; subst hp56; subst he56; obtain ⟨a6, c6, ev6, -⟩ := id red6; subst ev6; have HB6 := hyd (HB5.out.trans (hb6.mono HB5.out.size)); have HI6 := hyd ((hb6.block _ (lt_of_heap HI5.out)).trans HI5.out); have V1R6 := hyd (V1R5.out.keep (fun j hj => hb6.block j (V1R5.out.lt j hj))); have O16 := hyd ((hb6.block _ (lt_of_heap O15.out)).trans O15.out); have V3R6 := hyd (V3R5.out.keep10 hb6); have O36 := hyd ((hb6.block _ (lt_of_heap O35.out)).trans O35.out); have V5R6 := hyd (V5R5.out.keep hb6); clear HI5 V1R5 O15 V3R5 O35 V5R5; have V6R6 := hyd red6; clear hb6 red6 ts6
 go_wp2_with (first
  | (with_reducible refine wpList_load_all 24 (.tmp 5) rfl (by kernel_rfl) w.heap.size A1 24 (0, 0) rfl HI6.out _ Tryz.underlying24 rfl IA.out ?_)
  | fail)
 refine (CC.out _ HB6.out).mono ?_; rintro e w7 ⟨AA, rfl, rr7, hb7⟩; have AAS := hyd (show AA.size = 30 by obtain ⟨hf, pa, cap, e, -⟩ := rr7; rw [e]; exact arrC_size _ _ _ _ _ hf.tree); have AAO := hyd (show AA.all (·.oneCell') = true by obtain ⟨hf, pa, cap, e, -⟩ := rr7; rw [e]; exact arrC_one _ _ _ _ _ _ _); have AAI := hyd (show (Tryz.prog.info? 72).map (·.size) = some AA.size from by rw [AAS.out]; exact infoC); have HB7 := hyd (HB6.out.trans (hb7.mono HB6.out.size)); have HI7 := hyd ((hb7.block _ (lt_of_heap HI6.out)).trans HI6.out); have V1R7 := hyd (V1R6.out.keep (fun j hj => hb7.block j (V1R6.out.lt j hj))); have O17 := hyd ((hb7.block _ (lt_of_heap O16.out)).trans O16.out); have V3R7 := hyd (V3R6.out.keep10 hb7); have O37 := hyd ((hb7.block _ (lt_of_heap O36.out)).trans O36.out); have V5R7 := hyd (V5R6.out.keep hb7); have V6R7 := hyd (V6R6.out.keep hb7); clear HI6 V1R6 O16 V3R6 O36 V5R6 V6R6; have RAA7 := hyd rr7; clear hb7 rr7
 go_wp2_with (first
  | (with_reducible refine wpList_store_all rfl 72 (.tmp 15) (.tmp 52) rfl w7.heap.size AA rfl rfl 72 rz (heap_alloc_new w7 _) AAI.out (AAS.out.trans RS.out.symm) AAO.out ?_)
  | fail)
 intro w8 r8 off8 sz8; have b8 : Below w7.heap.size w7 w8 := ((Below.refl w7.heap.size w7).alloc (Nat.le_refl _) (.cells rz 72)).trans (off8.below (Nat.le_refl _) (by simp)); have HB8 := hyd (HB7.out.trans (b8.mono HB7.out.size)); have HI8 := hyd ((b8.block _ (lt_of_heap HI7.out)).trans HI7.out); have V1R8 := hyd (V1R7.out.keep (fun j hj => b8.block j (V1R7.out.lt j hj))); have O18 := hyd ((b8.block _ (lt_of_heap O17.out)).trans O17.out); have V3R8 := hyd (V3R7.out.keep10 b8); have O38 := hyd ((b8.block _ (lt_of_heap O37.out)).trans O37.out); have V5R8 := hyd (V5R7.out.keep b8); have V6R8 := hyd (V6R7.out.keep b8); have RAA8 := hyd (RAA7.out.keep b8); clear HI7 V1R7 O17 V3R7 O37 V5R7 V6R7 RAA7; have BAA8 := hyd r8; clear r8 off8 sz8 b8
 go_wp2_with (first
  | (with_reducible refine wpList_load_all 24 (.tmp 5) rfl (by kernel_rfl) w.heap.size A1 24 (0, 0) rfl HI8.out _ Tryz.underlying24 rfl IA.out ?_)
  | fail)
 refine (RC.out _ HB8.out).mono ?_; rintro e w9 ⟨AB, rfl, rr9, hb9⟩; have ABS := hyd (show AB.size = 30 by obtain ⟨hf, pa, cap, e, -⟩ := rr9; rw [e]; exact arrC_size _ _ _ _ _ hf.tree); have ABO := hyd (show AB.all (·.oneCell') = true by obtain ⟨hf, pa, cap, e, -⟩ := rr9; rw [e]; exact arrC_one _ _ _ _ _ _ _); have ABI := hyd (show (Tryz.prog.info? 72).map (·.size) = some AB.size from by rw [ABS.out]; exact infoC); have HB9 := hyd (HB8.out.trans (hb9.mono HB8.out.size)); have HI9 := hyd ((hb9.block _ (lt_of_heap HI8.out)).trans HI8.out); have V1R9 := hyd (V1R8.out.keep (fun j hj => hb9.block j (V1R8.out.lt j hj))); have O19 := hyd ((hb9.block _ (lt_of_heap O18.out)).trans O18.out); have V3R9 := hyd (V3R8.out.keep10 hb9); have O39 := hyd ((hb9.block _ (lt_of_heap O38.out)).trans O38.out); have V5R9 := hyd (V5R8.out.keep hb9); have V6R9 := hyd (V6R8.out.keep hb9); have RAA9 := hyd (RAA8.out.keep hb9); have BAA9 := hyd ((hb9.block _ (lt_of_heap BAA8.out)).trans BAA8.out); clear HI8 V1R8 O18 V3R8 O38 V5R8 V6R8 RAA8 BAA8; have RAB9 := hyd rr9; clear hb9 rr9
 go_wp2_with (first
  | (with_reducible refine wpList_store_all rfl 72 (.tmp 17) (.tmp 58) rfl w9.heap.size AB rfl rfl 72 rz (heap_alloc_new w9 _) ABI.out (ABS.out.trans RS.out.symm) ABO.out ?_)
  | fail)
 intro wX rX offX szX; have bX : Below w9.heap.size w9 wX := ((Below.refl w9.heap.size w9).alloc (Nat.le_refl _) (.cells rz 72)).trans (offX.below (Nat.le_refl _) (by simp)); have HBX := hyd (HB9.out.trans (bX.mono HB9.out.size)); have HIX := hyd ((bX.block _ (lt_of_heap HI9.out)).trans HI9.out); have V1RX := hyd (V1R9.out.keep (fun j hj => bX.block j (V1R9.out.lt j hj))); have O1X := hyd ((bX.block _ (lt_of_heap O19.out)).trans O19.out); have V3RX := hyd (V3R9.out.keep10 bX); have O3X := hyd ((bX.block _ (lt_of_heap O39.out)).trans O39.out); have V5RX := hyd (V5R9.out.keep bX); have V6RX := hyd (V6R9.out.keep bX); have RAAX := hyd (RAA9.out.keep bX); have BAAX := hyd ((bX.block _ (lt_of_heap BAA9.out)).trans BAA9.out); have RABX := hyd (RAB9.out.keep bX); clear HI9 V1R9 O19 V3R9 O39 V5R9 V6R9 RAA9 BAA9 RAB9; have BABX := hyd rX; clear rX offX szX bX
 go_wp2_with (first
  | (with_reducible refine wpList_load_all 24 (.tmp 5) rfl (by kernel_rfl) w.heap.size A1 24 (0, 0) rfl HIX.out _ Tryz.underlying24 rfl IA.out ?_)
  | fail)
 refine (CB.out _ HBX.out).mono ?_; rintro e wY ⟨vY, rfl, rowY, farY, hbY⟩; obtain ⟨aY, cY, eY, -⟩ := rowY.shape; obtain ⟨nY, hnY⟩ : ∃ nY, xb.length = nY := ⟨_, rfl⟩; rw [hnY] at eY; subst eY; have HNY := hyd hnY; have FAY := hyd (fun j hj => (⟨Nat.le_trans HBX.out.size (farY j hj), Nat.lt_of_lt_of_le (lt_of_heap O1X.out) (farY j hj)⟩ : w.heap.size ≤ j ∧ w1.heap.size < j)); have HBY := hyd (HBX.out.trans (hbY.mono HBX.out.size)); have HIY := hyd ((hbY.block _ (lt_of_heap HIX.out)).trans HIX.out); have V1RY := hyd (V1RX.out.keep (fun j hj => hbY.block j (V1RX.out.lt j hj))); have O1Y := hyd ((hbY.block _ (lt_of_heap O1X.out)).trans O1X.out); have V3RY := hyd (V3RX.out.keep10 hbY); have O3Y := hyd ((hbY.block _ (lt_of_heap O3X.out)).trans O3X.out); have V5RY := hyd (V5RX.out.keep hbY); have V6RY := hyd (V6RX.out.keep hbY); have RAAY := hyd (RAAX.out.keep hbY); have BAAY := hyd ((hbY.block _ (lt_of_heap BAAX.out)).trans BAAX.out); have RABY := hyd (RABX.out.keep hbY); have BABY := hyd ((hbY.block _ (lt_of_heap BABX.out)).trans BABX.out); clear HIX V1RX O1X V3RX O3X V5RX V6RX RAAX BAAX RABX BABX; have VYRY := hyd rowY; clear hbY rowY farY hnY
 go_wp2_with (first
  | (with_reducible refine wpList_load_all 24 (.tmp 5) rfl (by kernel_rfl) w.heap.size A1 24 (0, 0) rfl HIY.out _ Tryz.underlying24 rfl IA.out ?_)
  | fail)
 refine (RB.out _ HBY.out).mono ?_; rintro e wZ ⟨vZ, rfl, redZ, hbZ⟩; have redZ := redZ.red; obtain ⟨aZ, cZ, eZ, -⟩ := id redZ; rw [HNY.out] at eZ; subst eZ; have HBZ := hyd (HBY.out.trans (hbZ.mono HBY.out.size)); have HIZ := hyd ((hbZ.block _ (lt_of_heap HIY.out)).trans HIY.out); have V1RZ := hyd (V1RY.out.keep (fun j hj => hbZ.block j (V1RY.out.lt j hj))); have O1Z := hyd ((hbZ.block _ (lt_of_heap O1Y.out)).trans O1Y.out); have V3RZ := hyd (V3RY.out.keep10 hbZ); have O3Z := hyd ((hbZ.block _ (lt_of_heap O3Y.out)).trans O3Y.out); have V5RZ := hyd (V5RY.out.keep hbZ); have V6RZ := hyd (V6RY.out.keep hbZ); have RAAZ := hyd (RAAY.out.keep hbZ); have BAAZ := hyd ((hbZ.block _ (lt_of_heap BAAY.out)).trans BAAY.out); have RABZ := hyd (RABY.out.keep hbZ); have BABZ := hyd ((hbZ.block _ (lt_of_heap BABY.out)).trans BABY.out); have VYRZ := hyd (VYRY.out.keep (fun j hj => hbZ.block j (VYRY.out.lt j hj))); clear HIY V1RY O1Y V3RY O3Y V5RY V6RY RAAY BAAY RABY BABY VYRY; have VZRZ := hyd redZ; clear hbZ redZ; have CO := Object_any kk kk (.slice a1 n1 c1) (.slice a3 n1 c3) bb bb wZ V1RZ.out.red V3RZ.out; rw [show (kk == kk && bb == bb) = true by simp] at CO; have CO := hyd CO; have q1 := (cells2 O1Z.out).1; have q2 := (cells2 O1Z.out).2; have q3 := (cells2 O3Z.out).1; have q4 := (cells2 O3Z.out).2
 go_wp2_with fail
 refine CO.out.mono ?_; rintro e wA ⟨rfl, hbA⟩; clear CO q1 q2 q3 q4; have HBA := hyd (HBZ.out.trans (hbA.mono HBZ.out.size)); have V1RA := hyd (V1RZ.out.keep (fun j hj => hbA.block j (V1RZ.out.lt j hj))); have O1A := hyd ((hbA.block _ (lt_of_heap O1Z.out)).trans O1Z.out); have V5RA := hyd (V5RZ.out.keep hbA); have V6RA := hyd (V6RZ.out.keep hbA); have RAAA := hyd (RAAZ.out.keep hbA); have BAAA := hyd ((hbA.block _ (lt_of_heap BAAZ.out)).trans BAAZ.out); have RABA := hyd (RABZ.out.keep hbA); have BABA := hyd ((hbA.block _ (lt_of_heap BABZ.out)).trans BABZ.out); have VYRA := hyd (VYRZ.out.keep (fun j hj => hbA.block j (VYRZ.out.lt j hj))); have VZRA := hyd (VZRZ.out.keep10 hbA); clear V1RZ O1Z V5RZ V6RZ RAAZ BAAZ RABZ BABZ VYRZ VZRZ
 have it5 : ItemsAt wA a5 p6 := by
  obtain ⟨a', c', e, hi, -⟩ := V5RA.out; simp only [Value.slice.injEq] at e; obtain ⟨rfl, -, rfl⟩ := e; exact hi
 have it6 : ItemsAt wA a6 p6 := by
  obtain ⟨a', c', e, hi, -⟩ := V6RA.out; simp only [Value.slice.injEq] at e; obtain ⟨rfl, -, rfl⟩ := e; exact hi
 have CI := hyd (PlainItm_any a5 a6 p6.length c5 c6 p6 wA it5 it6 rfl (by have := (treeS_len HOB.out TS5.out).1; omega) (treeS_len HOB.out TS5.out).2); clear hbA it5 it6
 go_wp2_with fail
 refine CI.out.mono ?_; rintro e wB ⟨rfl, hbB⟩; clear CI; have HBB := hyd (HBA.out.trans (hbB.mono HBA.out.size)); have V1RB := hyd (V1RA.out.keep (fun j hj => hbB.block j (V1RA.out.lt j hj))); have O1B := hyd ((hbB.block _ (lt_of_heap O1A.out)).trans O1A.out); have RAAB := hyd (RAAA.out.keep hbB); have BAAB := hyd ((hbB.block _ (lt_of_heap BAAA.out)).trans BAAA.out); have RABB := hyd (RABA.out.keep hbB); have BABB := hyd ((hbB.block _ (lt_of_heap BABA.out)).trans BABA.out); have VYRB := hyd (VYRA.out.keep (fun j hj => hbB.block j (VYRA.out.lt j hj))); have VZRB := hyd (VZRA.out.keep10 hbB); clear V1RA O1A RAAA BAAA RABA BABA VYRA VZRA; clear hbB; have CR := hyd (record_red10 AA AB rc wB RAAB.out RABB.out FEW.out)
 go_wp2_with (first
  | (with_reducible refine wpList_load_all 72 (.tmp 15) rfl (by kernel_rfl) w7.heap.size AA 72 (0, 0) rfl BAAB.out _ Tryz.underlying72 rfl AAI.out ?_)
  | (with_reducible refine wpList_load_all 72 (.tmp 17) rfl (by kernel_rfl) w9.heap.size AB 72 (0, 0) rfl BABB.out _ Tryz.underlying72 rfl ABI.out ?_)
  | fail)
 refine CR.out.mono ?_; rintro e wC ⟨rfl, hbC⟩; clear CR; have HBC := hyd (HBB.out.trans (hbC.mono HBB.out.size)); have V1RC := hyd (V1RB.out.keep (fun j hj => hbC.block j (V1RB.out.lt j hj))); have O1C := hyd ((hbC.block _ (lt_of_heap O1B.out)).trans O1B.out); have VYRC := hyd (VYRB.out.keep (fun j hj => hbC.block j (VYRB.out.lt j hj))); have VZRC := hyd (VZRB.out.keep10 hbC); clear V1RB O1B VYRB VZRB; clear hbC
 have by1 : BAt wC aY xb := by
  obtain ⟨a', c', e, hi, -⟩ := VYRC.out.red; simp only [Value.slice.injEq] at e; obtain ⟨rfl, -, rfl⟩ := e; exact hi
 have by2 : BAt wC aZ xb := by
  obtain ⟨a', c', e, hi, -⟩ := VZRC.out; simp only [Value.slice.injEq] at e; obtain ⟨rfl, -, rfl⟩ := e; exact hi
 have CY := hyd (Bytes_same aY aZ nY nY cY cZ xb wC by1 by2 HNY.out.symm HNY.out.symm); clear by1 by2; have q2 := (cells2 O1C.out).2; have CS := hyd (Spoil_row (.slice a1 n1 c1) bb wC V1RC.out (by have := LEN.out; omega))
 go_wp2_with fail
 refine CY.out.mono ?_; rintro e wC' ⟨rfl, rfl⟩; clear CY
 go_wp2_with fail
 refine CS.out.mono ?_; rintro e wD ⟨rfl, hcD⟩; clear CS q2; have rowD : Row wD (.slice aY nY cY) xb := VYRC.out.keep (fun j hj => hcD.block j (VYRC.out.lt j hj) (fun h => by have h1 := (FA1.out j h).2; have h2 := (FAY.out j hj).2; omega)); have HBD := hyd (HBC.out.trans (hcD.below HBC.out.size (fun j _ hj => (FA1.out j hj).1))); have CS := hyd (Spoil_row (.slice aY nY cY) xb wD rowD (by have := LEN1.out; omega)); clear rowD hcD
 go_wp2_with fail
 refine CS.out.mono ?_; rintro e wE ⟨rfl, hcE⟩; have HBE := hyd (HBD.out.trans (hcE.below HBD.out.size (fun j _ hj => (FAY.out j hj).1))); clear CS hcE; go_wp2; go_ret; exact ⟨rfl, HBE.out⟩
theorem StoreAt.ids {S : Nat → Prop} {w : World} {g : Nat} {L : List Cel} (h : StoreAt S w g L) : ∀ x ∈ L, x.id.length = 20 := by
 obtain ⟨hg, E, a, c, hE, hblk, hcels, hnone, hle, hmax⟩ := h; intro x hx; rw [← hE] at hx; obtain ⟨e, he, rfl⟩ := List.mem_map.1 hx; exact (hcels.ok e he).1
theorem rIds_is {S : Nat → Prop} {w : World} {g : Nat} {L : List Cel} (h : StoreAt S w g L) (hm : L.length ≤ 1000000) :
  Calls Tryz.prog 15 #[.pointer (some ⟨g, 0, none⟩)] w fun e w' => ∃ v, e = .returned v ∧ OwnD w.heap.size v (L.map Cel.id) w' ∧ Below w.heap.size w w' := by
 have hids := h.ids; obtain ⟨hg, E, a, c, hE, hblk, hcels, hnone, hle, hmax⟩ := h
 have hEn : E.length = L.length := by rw [← hE, List.length_map]
 have KG := hyd (fun u (hu : Below w.heap.size w u) => (by
  rw [Lib.cell_of_heap ((hu.block g (lt_of_heap hblk)).trans hblk)]
  rfl : u.cell? ⟨g, 0, none⟩ = some (.slice a L.length c)))
 have KE := hyd (fun u (hu : Below w.heap.size w u) => (hcels.keep (Stays.of hu) : CelsAt S u g a E)); have HID := hyd hids
 go_enter Tryz.func15, Tryz.ntmps15
 go_wp2_with fail
 go_loopw [3, 4] (fun v k wr => ∃ q : Nat, q ≤ L.length ∧ k = .int .i64 q ∧ OwnD w.heap.size v ((L.map Cel.id).take q) wr ∧ Below w.heap.size w wr) (fun _ k _ => L.length - (intOf k).toNat)
 case atStart => exact ⟨0, Nat.zero_le _, rfl, ownD_nil _ _, Below.refl _ _⟩
 case round =>
  obtain ⟨q, hq, rfl, how, hbr⟩ := hrel; have HO := hyd how; have HBR := hyd hbr; have pg := KG.out _ hbr; clear how hbr
  by_cases hlt : q < L.length
  ·obtain ⟨y, hy⟩ : ∃ y, L[q].id = y := ⟨_, rfl⟩
   have hqE : q < E.length := by rw [hEn]; exact hlt
   have hyE : E[q].c.id = y := by rw [← hy]; simp only [← hE, List.getElem_map]
   obtain ⟨b, o, rfl, hbl⟩ := hcels.row.some (by omega)
   have hy20 : y.length = 20 := by rw [← hy]; exact hids _ (List.getElem_mem hlt)
   have RY := hyd (show wr.rangeAt b (o + q * 22) (cellsD y) by
    have hq2 := (KE.out wr HBR.out).id q hqE; rw [hyE] at hq2
    exact hq2)
   have LX := hyd (show (Tryz.prog.info? 24).map (·.size) = some (cellsD y).length by rw [cellsD_len y hy20]; exact infoD_n); have HP20 := hyd hy20; obtain ⟨Y, hY⟩ : ∃ Y, arrD y = Y := ⟨_, rfl⟩; have HY := hyd hY; have HYS := hyd (show Y.size = 20 by rw [← hY]; exact arrD_size y hy20)
   have HTK := hyd (show (L.map Cel.id).take (q + 1) = (L.map Cel.id).take q ++ [y] by
    rw [← hy, List.take_add_one, List.getElem?_map, List.getElem?_eq_getElem hlt]; rfl)
   have HLN := hyd (show ((L.map Cel.id).take q).length ≤ 1000000 by rw [List.length_take, List.length_map]; omega)
   have g1 : (q : Int) < (L.length : Int) := by omega
   have g2 : (q : Int) ≤ (c : Int) := by omega
   have hb5 := (Below.refl wr.heap.size wr).alloc (Nat.le_refl _) (.cells Y 24); have HW5 := hyd (ownD_below HO.out hb5); have HB5 := hyd (HBR.out.trans (hb5.mono HBR.out.size)); have ea : (cellsD y).toArray = Y := hY; obtain ⟨n, hn⟩ : ∃ n, L.length = n := ⟨_, rfl⟩; have HN := hyd hn; rw [hn] at pg g1; clear hb5 hy hyE hn
   generalize cellsD y = cy at *
   go_wp2_with (first
    | (with_reducible refine wpList_load_midD 24 (.tmp 21) rfl (by kernel_rfl) b (o + q * 22) rfl cy _ RY.out Tryz.underlying24 rfl LX.out ?_; rw [ea])
    | (with_reducible refine wpList_build_idD rfl (.tmp 22) rfl Y HYS.out rfl ?_)
    | (at_builtin; refine wpList_append_idD rfl _ _ rfl w.heap.size _ ((L.map Cel.id).take q) y wr.heap.size Y HY.out.symm rfl rfl (heap_alloc_new wr _) HP20.out HW5.out (Nat.le_trans HLN.out (by omega)) HB5.out.size ?_)
    | fail)
   intro v6 w6 o6 g6; have hb6 := (Below.refl w.heap.size (wr.alloc (.cells Y 24))).grown g6 HB5.out.size (fun j hj => (HW5.out.lt j hj).1); have HB6 := hyd (HB5.out.trans hb6); have HW6 := hyd (show OwnD w.heap.size v6 ((L.map Cel.id).take (q + 1)) w6 by rw [HTK.out]; exact o6); clear o6 g6 hb6; go_wp2
   go_roundw
   case rel => exact ⟨q + 1, by rw [HN.out]; omega, by go_num, HW6.out, HB6.out⟩
   case measure => simp [intOf]; omega
  ·obtain rfl : q = L.length := by omega
   rw [List.take_of_length_le (by rw [List.length_map]; exact Nat.le_refl _)] at HO; go_wp2; go_ret; exact ⟨_, rfl, HO.out, HBR.out⟩
theorem StT.grown {w w' : World} {g : Nat} {T : Nat → UInt8} {p n : Nat} {row : Option Nat} (h : StT w g T p n) (hg : w.grownBy w' row) (hr : some g ≠ row) : StT w' g T p n := by
 obtain ⟨cs, h1, h2⟩ := h; exact ⟨cs, (hg.block g (lt_of_heap h1) hr).trans h1, h2⟩
theorem grown_new {a b c : World} {row : Option Nat} {k : Nat} (h : a.grownBy b row) (h2 : b.grownBy c (some k)) (hk : a.heap.size ≤ k) : a.grownBy c row :=
 ⟨h2.os.trans h.os, h2.tape.trans h.tape, h2.output.trans h.output, Nat.le_trans h.size h2.size, fun i hi hr => (h2.block i (Nat.lt_of_lt_of_le hi h.size) (fun e => by cases e; omega)).trans (h.block i hi hr)⟩
theorem end_any (w : World) (g : Nat) (l : List UInt8) (hl : l.length ≤ 1000000) (hst : StT w g (padF l) l.length l.length) :
  Calls Tryz.prog 74 #[.pointer (some ⟨g, 0, none⟩)] w fun e w' => e = .returned (.tuple #[]) ∧ w.grownBy w' (some g) ∧ StT w' g (padF l) (padLen l.length) (padLen l.length) := by
 obtain ⟨i0, hi, hz0, hz1, hz2⟩ := info_parts info5; have HST := hyd hst; obtain ⟨cs, hg, hc⟩ := hst; obtain ⟨n, hn⟩ : ∃ n, n = l.length := ⟨_, rfl⟩
 have q70 : w.cell? ⟨g, 70, none⟩ = some (.int .u64 n) := by rw [hn]; exact (cell_of_row w g 70 cs _ _ hg).trans hc.len
 obtain ⟨f, hf⟩ : ∃ f, f = n % 64 := ⟨_, rfl⟩
 have q69 : w.cell? ⟨g, 69, none⟩ = some (.int .i64 f) := by rw [hf, hn]; exact (cell_of_row w g 69 cs _ _ hg).trans hc.fill
 have hgl := lt_of_heap hg
 have hf64 : f < 64 := by omega
 have hn6 : n ≤ 1000000 := by omega
 obtain ⟨z, hz⟩ : ∃ z, z = (119 - f) % 64 := ⟨_, rfl⟩
 have hz64 : z < 64 := by omega
 have hzm : IntKind.i64.wrap ((119 - (f : Int)).tmod 64) = z := by rw [IntWalk.rem_in _ _ (by omega), IntKind.wrap_i64]; omega
 have hzm2 : (119 - (f : Int)).tmod 64 = z := by rw [IntWalk.rem_in _ _ (by omega)]; omega
 have HN := hyd hn; have HF := hyd hf; have HZ := hyd hz; clear hc hg hn hf hz hl
 go_enter Tryz.func74, Tryz.ntmps74
 go_wp2_with (at_make; refine wpList_make_full _ rfl _ _ 32 rfl w.heap.size 5 i0 (.int .u8 0) 1 Tryz.underlying32 hi hz0 hz1 _ _ _ _ (1 + z + 8) rfl rfl (by omega) (by omega) ?b2 ?b3 (Nat.le_refl _) ?_)
 case b2 => rw [hz2]; omega
 case b3 => unfold maxLen; omega
 intro w0 hown0 hgrow0; have hgr0 : w.grownBy w0 (some g) := ⟨hgrow0.os, hgrow0.tape, hgrow0.output, hgrow0.size, fun k hk _ => hgrow0.block k hk (by simp)⟩; have hs0 : StT w0 g (padF l) l.length l.length := HST.out.grown hgrow0 (by simp); obtain ⟨M, hM⟩ : ∃ M, M = 1 + z + 8 := ⟨_, rfl⟩; have hM2 : 1 + z + 8 = M := hM.symm; rw [hM2] at hown0 ⊢
 have hgl2 : w.heap.size ≠ g := by omega
 obtain ⟨y0, hy0⟩ := own_cell hown0 0 (by omega); have hf0 := hown0.frozenAt 0; obtain ⟨hst0, hgs0⟩ := hown0.stored 0 (.int .u8 128)
 have hmade : ∀ j, j < M → (madeCells #[Value.int .u8 0] M).toList[j]? = some (.int .u8 0) := fun j hj => by
  rw [toList_madeCells_one, List.getElem?_replicate, if_pos hj]
 generalize hyz : (madeCells #[Value.int .u8 0] M).toList = ys0 at hown0 hst0 hmade; have hgr1 := grown_new hgr0 hgs0 (Nat.le_refl _); have hs1 := hs0.grown hgs0 (by simp; omega); have HO := hyd hown0; have HS0 := hyd hst0; have HMD := hyd hmade; have HM := hyd hM; clear hown0 hst0 hmade hyz hs0 hgrow0 hgs0 q70 q69 hM
 go_wp2_with fail
 generalize hw1 : w0.setCell ⟨w.heap.size, 0, none⟩ (.int .u8 128) = w1 at hgr1 hs1; have HS0' := HS0.out; rw [hw1] at HS0'; have HSS := hyd HS0'; have HS1 := hyd hs1; clear hs1; clear HS0' HS0 hw1 hy0 hf0
 go_loopw [23] (fun v wr => ∃ (k : Nat) (ys : List Value), k ≤ 8 ∧ v = .int .i64 k ∧ wr.ownsRow w.heap.size 5 1 (.slice (some ⟨w.heap.size, 0, none⟩) M M) M ys ∧
   (∀ j, j < 1 + z + k → ys[j]? = some (.int .u8 (padF l (n + j)).toNat)) ∧ StT wr g (padF l) l.length l.length ∧ w.grownBy wr (some g)) (fun v _ => 8 - (intOf v).toNat)
 case atStart =>
  refine ⟨0, _, Nat.zero_le _, rfl, HSS.out, fun j hj => ?_, HS1.out, hgr1⟩; have h1 := HMD.out j (by have := HM.out; omega); rw [List.getElem?_set]
  split
  ·rename_i e; subst e
   have := own_len HO.out; rw [if_pos (by omega), Nat.add_zero, HN.out, padF_0]; rfl
  ·rw [h1, padF_z l (n + j) (by have := HN.out; omega) (by have := HN.out; have := HF.out; have := HZ.out; have := pad_z l.length; have := HN.out; subst n; subst f; omega)]; rfl
 case round =>
  clear hgr1 HS1 HSS HMD HO; obtain ⟨k, ys, hk, rfl, hown, hys, hst, hgr⟩ := hrel
  by_cases hlt : k < 8
  ·have hb : 1 + z + k < M := by have := HM.out; omega
   have htn : ((1 : Int) + (z : Int) + (k : Int)).toNat = 1 + z + k := by omega
   obtain ⟨y, hy⟩ := own_cell hown (1 + z + k) hb; have hfz := hown.frozenAt (1 + z + k); have HO := hyd hown; have HYS := hyd hys; have HST2 := hyd hst; have HGR := hyd hgr; clear hown hys hst hgr; go_wp2
   go_roundw
   case rel =>
    obtain ⟨hst1, hgs1⟩ := HO.out.stored (1 + z + k) (.int .u8 ((n : Int) * 8 / 2 ^ (8 * (7 - k)) % 256)); refine ⟨k + 1, _, by omega, by go_num, hst1, fun j hj => ?_, HST2.out.grown hgs1 (by simp; omega), grown_new HGR.out hgs1 (Nat.le_refl _)⟩; rw [List.getElem?_set]
    split
    ·rename_i e; subst e
     have h1 := own_len HO.out; have h2 := HN.out; have h3 := HF.out; have h4 := HZ.out; have h5 := pad_z l.length; rw [if_pos (by omega), h2, pad_val l (l.length + (1 + z + k)) k (by omega) hlt (by subst n; subst f; omega)]
    ·exact HYS.out j (by omega)
   case measure => simp [intOf]; omega
  ·obtain rfl : k = 8 := by omega
   have HO := hyd hown; have HYS := hyd hys; have HST2 := hyd hst; have HGR := hyd hgr; clear hown hys hst hgr
   have C := hyd (add_some wr g (padF l) l.length l.length w.heap.size 0 M M HST2.out hgl2 (own_lt HO.out) (Nat.le_refl _) (by have := HM.out; have := HN.out; omega) (fun i hi => by
    rw [HO.out.cellAt (0 + i) (by omega), Nat.zero_add, HYS.out i (by have := HM.out; omega), HN.out]))
   go_wp2_with fail
   refine C.out.mono ?_; rintro e w4 ⟨rfl, hgr4, hst4⟩
   have hM2 : l.length + M = padLen l.length := by
    have h2 := HN.out; have h3 := HF.out; have h4 := HZ.out; have h5 := pad_z l.length; have h6 := HM.out; subst n; subst f; omega
   go_wp2_with fail
   go_end0
   rw [hM2] at hst4; exact ⟨rfl, grown_trans HGR.out hgr4, hst4⟩
theorem digest_at (h : H5) (k : Nat) (hk : k < 20) : (digest h).getD k 0 = outB h k := by
 unfold digest; rw [List.getD_eq_getElem?_getD, List.getElem?_map, List.getElem?_range hk]; rfl
theorem outB_int (h : H5) (k a b : Nat) (ha : a = k / 4) (hb : b = k % 4) : (((h.get a).toNat : Int) / 2 ^ (8 * (3 - b)) % 256) = ((outB h k).toNat : Int) := by
 subst ha; subst hb; unfold outB; rw [UInt8.toNat_ofNat', Int.natCast_emod, Int.natCast_ediv, Int.natCast_pow]
 rfl
theorem id_any (w : World) (g : Nat) (cs : Array Value) (h : H5) (hg : w.heap[g]? = some (.cells cs 128 (0, 0))) (hs : StB cs h) :
  Calls Tryz.prog 75 #[.pointer (some ⟨g, 0, none⟩)] w fun e w' => e = .returned (idv (digest h)) ∧ Below w.heap.size w w' := by
 obtain ⟨z, hz, hze⟩ := z29; have hzv := zero_arr hz; have HZ := hyd hz; clear hz; have HZE := hyd hze; clear hze; have HG := hyd hg; clear hg; have HS := hyd hs; clear hs
 go_enter Tryz.func75, Tryz.ntmps75
 go_wp2_with fail
 go_loopw [5] (fun i wr => ∃ (k : Nat) (arr : Array Value), k ≤ 20 ∧ i = .int .i64 k ∧ wr.heap[w.heap.size + 1]? = some (.cells arr 24 (0, 0)) ∧ wr.heap[w.heap.size]? = some (.cells z 24 (0, 0)) ∧ arr.size = 20 ∧
   (∀ j, j < k → arr[j]? = some (.int .u8 ((digest h).getD j 0).toNat)) ∧ Below w.heap.size w wr) (fun i _ => 20 - (intOf i).toNat)
 case atStart => exact ⟨0, z, Nat.zero_le _, rfl, by rw [show w.heap.size + 1 = (w.alloc (.cells z 24)).heap.size by simp]; exact heap_alloc_new _ _, two_new w _ _, by rw [HZE.out]; simp, fun j hj => absurd hj (Nat.not_lt_zero _), ((Below.refl _ w).alloc (Nat.le_refl _) _).alloc (by simp) _⟩
 case round =>
  obtain ⟨k, arr, hk, rfl, ha, h2, hsz, har, hbr⟩ := hrel; have HA := hyd ha; clear ha; have H2 := hyd h2; clear h2; have HAR := hyd har; clear har
  by_cases hlt : k < 20
  ·have hgw : wr.heap[g]? = some (.cells cs 128 (0, 0)) := (hbr.block g (lt_of_heap HG.out)).trans HG.out
   obtain ⟨a, ha⟩ : ∃ a, a = k / 4 := ⟨_, rfl⟩; obtain ⟨b, hb⟩ : ∃ b, b = k % 4 := ⟨_, rfl⟩
   have hd : (k : Int) / 4 = (a : Int) := by omega
   have hm : (k : Int) % 4 = (b : Int) := by omega
   have hb4 : b < 4 := by omega
   have q : wr.cell? ⟨g, a, none⟩ = some (.int .u32 (h.get a).toNat) := (cell_of_row wr g a cs _ _ hgw).trans (HS.out.word a (by omega)); obtain ⟨x, hx⟩ : ∃ x : Int, x = (h.get a).toNat := ⟨_, rfl⟩; rw [← hx] at q
   have i5 := fun u => index_arr5 u g a (by omega) a rfl
   have i20 := fun u => index_arr20 u (w.heap.size + 1) k hlt k rfl
   have HA2 := hyd ha; have HB2 := hyd hb; have HX := hyd hx; clear ha hb hx hgw; obtain ⟨old, ho⟩ : ∃ v, wr.cell? ⟨w.heap.size + 1, k, none⟩ = some v := ⟨arr[k]'(by omega), by rw [cell_of_row wr _ k arr _ _ HA.out]; simp⟩; have hf : wr.frozen? ⟨w.heap.size + 1, k, none⟩ = false := not_frozen HA.out k; go_wp2
   go_roundw
   case rel =>
    refine ⟨k + 1, arr.setIfInBounds k _, by omega, by go_num, heap_set HA.out k _, ?_, by simpa using hsz, ?_, hbr.setCell (by simp) _⟩
    ·exact (Below.heap_setCell wr ⟨w.heap.size + 1, k, none⟩ _ w.heap.size (by simp)).trans H2.out
    ·intro j hj
     rw [set_get _ _ _ _ (by omega)]
     split
     ·rename_i e; subst e
      rw [HX.out, outB_int h j a b HA2.out HB2.out, digest_at h j hlt]
     ·exact HAR.out j (by omega)
   case measure => simp [intOf]; omega
  ·obtain rfl : k = 20 := by omega
   have harr : arr = (Lib.byteCells (digest h)).toArray := arr_bc (by rw [hsz, digest_len]) (fun j hj => HAR.out j (by rwa [digest_len] at hj)); have hall := bc_all (digest h); rw [← harr] at hall; have HARR := hyd harr; clear harr; have HALL := hyd hall; clear hall
   go_wp2_with (first
    | (with_reducible refine wpList_load_row rfl 24 (.tmp 3) rfl (w.heap.size + 1) rfl 24 arr (0, 0) _ ?lg Tryz.underlying24 rfl ?li ?_)
    | (with_reducible refine wpList_store_row rfl 24 _ _ rfl w.heap.size arr rfl rfl 24 z ?sg ?si ?so ?s1 ?_))
   case lg => exact HA.out
   case li => rw [info29, hsz]
   case sg => exact H2.out
   case si => rw [info29, hsz]
   case so => rw [HZE.out, hsz]; simp
   case s1 => exact HALL.out
   refine bodyPost_ret (results_cell_row Tryz.results75 _ _ w.heap.size 24 arr (0, 0) _ rfl (setRow_heap wr w.heap.size z arr _ (0, 0) H2.out) Tryz.underlying24 rfl (by rw [info29, hsz])) rfl ⟨by rw [HARR.out]; rfl, below_setRow hbr (Nat.le_refl _) arr⟩
def w5 : Array Value := #[.int .u32 1732584193, .int .u32 4023233417, .int .u32 2562383102, .int .u32 271733878, .int .u32 3285377520]
def st0 : Array Value := (w5.toList ++ (List.replicate 64 (Value.int .u8 0) ++ [Value.int .i64 0, Value.int .u64 0])).toArray
theorem built40 : Tryz.prog.built 128 [(0, .agg w5)] = some st0 := by kernel_rfl
theorem st0_size : st0.size = 71 := by kernel_rfl
theorem zer40_size : zer40.size = 71 := by kernel_rfl
theorem st0_all : st0.all (·.oneCell') = true := by kernel_rfl
theorem st0_StC (T : Nat → UInt8) : StC st0 T 0 0 where
 words := ⟨st0_size, fun i hi => by
  match i, hi with
  | 0, _ => rfl
  | 1, _ => rfl
  | 2, _ => rfl
  | 3, _ => rfl
  | 4, _ => rfl⟩
 bytes := fun i hi => absurd hi (Nat.not_lt_zero _)
 fill := by kernel_rfl
 len := by kernel_rfl
theorem wpList_append_bat {ops : Array Oper} {rest : List Oper} {o : Oper} {a : Act} {w : World} {Q : Exit → Act → World → Prop} (hgd : o.guard = none) (s x : Operand)
  (ho : o.op = .call { callee := .builtin .append, args := #[s, x], argTypes := #[32, 32] })
  (base : Nat) (v : Value) (n : Nat) (xs : List Value) (hs : a.eval s = v) (hown : w.ownsRow base 5 1 v n xs) (A : Option Addr) (m c : Nat) (l : List UInt8) (hm : m = l.length) (hx : a.eval x = .slice A m c)
  (hb : ∀ ad, A = some ad → ∀ j u, (Lib.byteCells l)[j]? = some u → w.cell? (ad.add j) = some u) (hnone : A = none → l.length = 0 ∧ c = 0) (hn : n + m ≤ 1000000000) (hbase : base ≤ w.heap.size)
  (h : ∀ v' w', w'.ownsRow base 5 1 v' (n + m) (xs ++ Lib.byteCells l) → w.grownBy w' v.ownBlock → wpList Tryz.prog ops Q rest (a.put o.dst v') w') : wpList Tryz.prog ops Q (o :: rest) a w := by
 obtain ⟨i0, hi, hz0, hz1, hz2⟩ := info_parts info5; subst hm
 cases A with
 | none =>
  obtain ⟨h1, h2⟩ := hnone rfl; obtain rfl : l = [] := List.eq_nil_of_length_eq_zero h1; subst h2; refine wpList_append_own_none hgd s x 32 ho base 5 i0 1 Tryz.underlying32 hi v n xs hs hown hx ?_; exact h v w (by simpa [Lib.byteCells] using hown) (World.grownBy.refl w _)
 | some ad =>
  refine wpList_append_own w hgd s x 32 ho base 5 i0 _ 1 1 Tryz.underlying32 hi hz0 hz1 hz2 rfl (by omega) v n xs hs hown ad l.length c (Lib.byteCells l) hx (by rw [bc_len, Nat.mul_one]) (hb ad rfl)
   (fun u hu => by simp [Lib.byteCells] at hu; obtain ⟨x, _, rfl⟩ := hu; rfl) (by unfold maxLen; omega) (by omega) hbase ?_
  intro v' w' h2 h3 _; exact h v' w' h2 h3
theorem wpList_append_one {ops : Array Oper} {rest : List Oper} {o : Oper} {a : Act} {w : World} {Q : Exit → Act → World → Prop} (hgd : o.guard = none) (s x : Operand)
  (ho : o.op = .call { callee := .builtin .append, args := #[s, x], argTypes := #[32, 32] })
  (base : Nat) (v : Value) (n : Nat) (xs : List Value) (hs : a.eval s = v) (hown : w.ownsRow base 5 1 v n xs) (ad : Addr) (c : Nat) (hx : a.eval x = .slice (some ad) 1 c) (y : Int)
  (hc : w.cell? (ad.add 0) = some (.int .u8 y)) (hn : n ≤ 1000000000) (hbase : base ≤ w.heap.size)
  (h : ∀ v' w', w'.ownsRow base 5 1 v' (n + 1) (xs ++ [.int .u8 y]) → w.grownBy w' v.ownBlock → wpList Tryz.prog ops Q rest (a.put o.dst v') w') : wpList Tryz.prog ops Q (o :: rest) a w := by
 obtain ⟨i0, hi, hz0, hz1, hz2⟩ := info_parts info5
 refine wpList_append_own w hgd s x 32 ho base 5 i0 _ 1 1 Tryz.underlying32 hi hz0 hz1 hz2 rfl (by omega) v n xs hs hown ad 1 c [.int .u8 y] hx rfl (fun j u hu => ?_)
  (fun u hu => by simp at hu; subst hu; rfl) (by unfold maxLen; omega) (by omega) hbase ?_
 ·match j, hu with
  | 0, hu => simp at hu; subst hu; exact hc
 ·intro v' w' h2 h3 _
  exact h v' w' h2 h3
theorem own_form {w : World} {base : Nat} {e : TypeId} {v : Value} {n : Nat} {xs : List Value} (h : w.ownsRow base e 1 v n xs) (hn : 0 < n) : ∃ g cap, v = .slice (some ⟨g, 0, none⟩) n cap ∧ base ≤ g ∧ g < w.heap.size := by
 rcases h.2 with ⟨h', h2⟩ | ⟨g', cap', cur, h', hb, hg, _⟩
 ·have := h.1
  subst h2
  simp at this; omega
 ·exact ⟨g', cap', h', hb, lt_of_heap hg⟩
def RowIs (xs : List Value) (k : Nat) (T : Nat → UInt8) : Prop := ∀ i, i < k → xs[i]? = some (.int .u8 (T i).toNat)
theorem RowIs.more {xs : List Value} {k : Nat} {T : Nat → UInt8} (h : RowIs xs k T) (hl : xs.length = k) (x : UInt8) (hx : T k = x) : RowIs (xs ++ [Value.int .u8 x.toNat]) (k + 1) T := fun i hi => by
 by_cases h1 : i < k
 ·rw [List.getElem?_append_left (by omega)]; exact h i h1
 ·obtain rfl : i = k := by omega
  rw [List.getElem?_append_right (by omega), hl, Nat.sub_self, hx]; rfl
theorem new_cell (w : World) (x : Value) (t : TypeId) : (w.alloc (.cells #[x] t)).cell? ((⟨w.heap.size, 0, none⟩ : Addr).add 0) = some x := by
 rw [addr_add]; exact (cell_of_row _ _ _ _ _ _ (heap_alloc_new w _)).trans rfl
theorem grown_size {w w' : World} {row : Option Nat} {k : Nat} (h : w.grownBy w' row) (hk : k ≤ w.heap.size) (o : Obj) : k ≤ (w'.alloc o).heap.size := by have := h.size; simp; omega
theorem row_bytes (l : List UInt8) : RowIs (Lib.byteCells l) l.length (padF l) := fun i hi => by rw [bc_at l i hi, padF_in l i hi]
structure W5 (arr : Array Value) (h : H5) : Prop where
 size : arr.size = 5
 word : ∀ i, i < 5 → arr[i]? = some (.int .u32 (h.get i).toNat)
theorem w5_W5 : W5 w5 h0 := ⟨rfl, fun i hi => by
  match i, hi with
  | 0, _ => rfl
  | 1, _ => rfl
  | 2, _ => rfl
  | 3, _ => rfl
  | 4, _ => rfl⟩
theorem w5_all : w5.all (·.oneCell') = true := by kernel_rfl
theorem zero_more (l : List UInt8) (k : Nat) (h : l.length < k) (h2 : k + 8 < padLen l.length) : padF l k = 0 := padF_z l k h (by omega)
theorem pad_more (l : List UInt8) (t q : Nat) (hq : q = (119 - l.length % 64) % 64) (ht : t < 8) (X : Int) (hX : X = ((l.length : Nat) : Int) * 8 / 2 ^ (8 * (7 - t)) % 256) {xs : List Value} (h : RowIs xs (l.length + 1 + q + t) (padF l)) (hl : xs.length = l.length + 1 + q + t) :
  RowIs (xs ++ [Value.int .u8 X]) (l.length + 1 + q + (t + 1)) (padF l) := by
 have hz := pad_z l.length; have e := pad_val l (l.length + 1 + q + t) t (by omega) ht (by omega); rw [hX, e]; exact h.more hl _ rfl
structure Rv (w wr : World) (z : Array Value) (h : H5) : Prop where
 res : wr.heap[w.heap.size]? = some (.cells z 24 (0, 0))
 words : ∃ ha, wr.heap[w.heap.size + 1]? = some (.cells ha 124 (0, 0)) ∧ W5 ha h
 size : w.heap.size + 2 ≤ wr.heap.size
 below : Below w.heap.size w wr
theorem Rv.grown {w wr w' : World} {z : Array Value} {h : H5} {row : Option Nat} (r : Rv w wr z h) (hg : wr.grownBy w' row) (hr : ∀ k, row = some k → w.heap.size + 2 ≤ k) : Rv w w' z h where
 res := (hg.block _ (by have := r.size; omega) (fun e => by have := hr _ e.symm; omega)).trans r.res
 words := by
  obtain ⟨ha, h1, h2⟩ := r.words; exact ⟨ha, (hg.block _ (by have := r.size; omega) (fun e => by have := hr _ e.symm; omega)).trans h1, h2⟩
 size := by have := r.size; have := hg.size; omega
 below := r.below.grown hg r.below.size (fun k hk => by have := hr k hk; omega)
theorem Rv.alloc {w wr : World} {z : Array Value} {h : H5} (r : Rv w wr z h) (o : Obj) : Rv w (wr.alloc o) z h := r.grown (World.grownBy_alloc wr o none) (fun k hk => by cases hk)
theorem RowIs.len {w : World} {base : Nat} {e : TypeId} {v : Value} {n : Nat} {xs : List Value} (h : w.ownsRow base e 1 v n xs) : xs.length = n := by simpa using h.1
theorem W5.all {arr : Array Value} {h : H5} (w5 : W5 arr h) : arr.all (·.oneCell') = true := by
 rw [Array.all_eq_true]; intro i hi; have h1 := w5.word i (by rw [← w5.size]; exact hi); rw [Array.getElem?_eq_getElem hi] at h1
 cases h1' : arr[i] <;> rw [h1'] at h1 <;> simp_all [Value.oneCell']
theorem five_W5 (s : H5) : W5 #[.int .u32 s.a.toNat, .int .u32 s.b.toNat, .int .u32 s.c.toNat, .int .u32 s.d.toNat, .int .u32 s.e.toNat] s := ⟨rfl, fun i hi => by
  match i, hi with
  | 0, _ => rfl
  | 1, _ => rfl
  | 2, _ => rfl
  | 3, _ => rfl
  | 4, _ => rfl⟩
theorem zlit36 : (Tryz.prog.info? 124).map (fun i => (i.zero, i.size)) = some (some (.agg #[.int .u32 0, .int .u32 0, .int .u32 0, .int .u32 0, .int .u32 0]), 5) := by kernel_rfl
theorem five_all (a b c d e : Int) : (#[Value.int .u32 a, .int .u32 b, .int .u32 c, .int .u32 d, .int .u32 e] : Array Value).all (·.oneCell') = true := by simp [Value.oneCell']
theorem index_u8 (w : World) (g n cap k : Nat) (hk : k < n) (i : Int) (hi : i = (k : Int)) :
  (Instr.indexAt 32 (.slice (some ⟨g, 0, none⟩) n cap) (.int .i64 i)).run Tryz.prog w = .ok (.pointer (some ⟨g, k, none⟩)) w := by
 have ee : Tryz.prog.elem 32 = 5 := by kernel_rfl
 rw [run_indexAt_slice (P := Tryz.prog) w 32 ⟨g, 0, none⟩ n cap .i64 i (by rw [ee]; exact Tryz.underlying32), if_pos (by omega), ee, size_u8]; simp only [Result.andThen_ok, show i.toNat = k by omega, Nat.mul_one, addr_add, Nat.zero_add]
set_option maxRecDepth 100000 in
theorem rSum_any (w : World) (A : Option Addr) (c : Nat) (l : List UInt8) (hl : l.length ≤ 1000000) (hbat : BAt w A l) (hnone : A = none → l.length = 0 ∧ c = 0) :
  Calls Tryz.prog 53 #[.slice A l.length c] w fun e w' => e = .returned (idv (sumL l)) ∧ Below w.heap.size w w' := by
 obtain ⟨z, hz, hze⟩ := z29; have hzv := zero_arr hz
 have hzs : z.size = 20 := by rw [hze]; simp
 obtain ⟨z5, hz5, hz5e⟩ := z36; have hzv5 := zero_arr hz5
 have hz5s : z5.size = 5 := by rw [hz5e]; simp
 obtain ⟨z8, hz8, hz8e⟩ := z43; have hzv8 := zero_arr hz8
 have hz8s : z8.size = 80 := by rw [hz8e]; simp
 have HZS := hyd hzs; have HZ5 := hyd hz5s; have HZ8 := hyd hz8s; clear hz hze hzs hz5 hz5e hz5s hz8 hz8e hz8s; obtain ⟨n, hn⟩ : ∃ n, n = l.length := ⟨_, rfl⟩
 have hn6 : n ≤ 1000000 := by omega
 obtain ⟨q, hq⟩ : ∃ q, q = (119 - n % 64) % 64 := ⟨_, rfl⟩
 have hq64 : q < 64 := by omega
 have HB := hyd hbat; have HNO := hyd hnone; have HN := hyd hn; have HQ := hyd hq; clear hbat hnone hq; rw [← hn]; clear hn hl
 go_enter Tryz.func53, Tryz.ntmps53
 go_upto_region 2 with (first
  | (with_reducible refine wpList_build_as rfl 124 _ rfl w5 ?w5 ?_)
  | (with_reducible refine wpList_store_row rfl 124 (.tmp 3) (.tmp 19) rfl (w.heap.size + 1) w5 rfl rfl 124 z5 ?sg ?si ?so ?s1 ?_)
  | fail)
 case w5 => kernel_rfl
 case sg => rw [show w.heap.size + 1 = (w.alloc (.cells z 24)).heap.size by simp]; exact heap_alloc_new _ _
 case si => rw [info36]; rfl
 case so => rw [HZ5.out]; rfl
 case s1 => exact w5_all
 generalize hwS : (((w.alloc (.cells z 24)).alloc (.cells z5 124)).setRow (w.heap.size + 1) w5) = w0
 have hnew : ((w.alloc (.cells z 24)).alloc (.cells z5 124)).heap[w.heap.size + 1]? = some (.cells z5 124 (0, 0)) := by
  rw [show w.heap.size + 1 = (w.alloc (.cells z 24)).heap.size by simp]; exact heap_alloc_new _ _
 have hh0 : w0.heap[w.heap.size + 1]? = some (.cells w5 124 (0, 0)) := by
  subst hwS; exact setRow_heap _ _ z5 w5 _ _ hnew
 have hb0 : Below w.heap.size w w0 := by
  subst hwS; exact below_setRow (((Below.refl _ w).alloc (Nat.le_refl _) _).alloc (by simp) _) (by omega) w5
 have hr0 : w0.heap[w.heap.size]? = some (.cells z 24 (0, 0)) := by
  subst hwS; rw [setRow_other _ _ _ _ (by omega)]; exact two_new w _ _
 have hsz0 : w0.heap.size = w.heap.size + 2 := by
  subst hwS
  simp [World.setRow]
 clear hwS hnew
 have hsrc := fun ad h j u hj => (HB.out.keep hb0).cells (w := w0) ad h j u hj
 have HSRC := hyd hsrc; clear hsrc; have HR0 := hyd hr0; have HH0 := hyd hh0; have HSZ0 := hyd hsz0; clear hr0 hh0 hsz0
 go_wp2_with (first
  | (at_builtin; refine wpList_append_bat rfl (.const (.slice none 0 0)) (.tmp 20) rfl (w.heap.size + 2) (.slice none 0 0) 0 [] rfl (World.ownsRow_nil _ _ _ _) A n c l HN.out rfl HSRC.out HNO.out (by omega) (by rw [HSZ0.out]; exact Nat.le_refl _) ?_; intro v1 w1 hown1 hgr1)
  | (at_builtin; refine wpList_append_one rfl (.tmp 21) (.tmp 22) rfl (w.heap.size + 2) v1 (0 + n) ([] ++ Lib.byteCells l) rfl (hown1.alloc _) ⟨w1.heap.size, 0, none⟩ 1 rfl 128 (new_cell w1 _ _) (by omega) (grown_size hgr1 (Nat.le_of_eq HSZ0.out.symm) _) ?_; intro v2 w2 hown2 hgr2)
  | fail)
 have hb1 := hb0.grown hgr1 hb0.size (fun k hk => by cases hk); have hb2 := (hb1.alloc hb1.size (.cells #[Value.int .u8 128] 5)).grown hgr2 (by have := hb1.size; simp; omega) (fun k hk => by have := own_block hown1 k hk; omega)
 have hg02 : ∀ k, k < w.heap.size + 2 → w2.heap[k]? = w0.heap[k]? := fun k hk => by
  have h0 := HSZ0.out; have h1 := hgr1.size; rw [hgr2.block k (by simp; omega) (fun e => by have := own_block hown1 k e.symm; omega), Below.heap_alloc _ _ _ (by omega), hgr1.block k (by omega) (fun e => by simp [Value.ownBlock] at e)]
 have hh2 := (hg02 (w.heap.size + 1) (by omega)).trans HH0.out; have hr2 := (hg02 w.heap.size (by omega)).trans HR0.out
 have hsz2 : w.heap.size + 2 ≤ w2.heap.size := by have h0 := HSZ0.out; have h1 := hgr1.size; have h2 := hgr2.size; simp at h2; omega
 have hrow2 : RowIs (([] ++ Lib.byteCells l) ++ [Value.int .u8 128]) (n + 1) (padF l) := by
  rw [HN.out]; exact (row_bytes l).more (bc_len l) 128 (padF_0 l)
 rw [Nat.zero_add] at hown2; generalize (([] ++ Lib.byteCells l) ++ [Value.int .u8 128]) = xs2 at hown2 hrow2; have hv2 : Rv w w2 z h0 := ⟨hr2, ⟨w5, hh2, w5_W5⟩, hsz2, hb2⟩; clear hg02 hgr1 hgr2 hown1 hb0 hb1 HSZ0 HSRC HR0 HH0 hr2 hh2 hsz2 hb2; have HO2 := hyd hown2; have HR2 := hyd hrow2; have HV2 := hyd hv2; clear hown2 hrow2 hv2
 go_loopw [4] (fun v wr => ∃ (k : Nat) (xs : List Value), n + 1 ≤ k ∧ k ≤ n + 1 + q ∧ wr.ownsRow (w.heap.size + 2) 5 1 v k xs ∧ RowIs xs k (padF l) ∧ Rv w wr z h0) (fun v _ => n + 1 + q - sliceLen v)
 case atStart => exact ⟨n + 1, xs2, Nat.le_refl _, by omega, HO2.out, HR2.out, HV2.out⟩
 case round =>
  clear HO2 HR2 HV2; obtain ⟨k, xs, hk0, hk1, hown, hrow, hv⟩ := hrel; obtain ⟨g, cap, rfl, hgb, hgl⟩ := own_form hown (by omega); have HO := hyd hown; have HR := hyd hrow; have HV := hyd hv; clear hown hrow hv; obtain ⟨m, hm⟩ : ∃ m, m = k % 64 := ⟨_, rfl⟩
  have htm : (k : Int).tmod 64 = (m : Int) := by rw [IntWalk.rem_in _ _ (by omega)]; omega
  have htm2 : (k : Int) % 64 = (m : Int) := by omega
  by_cases hlt : k < n + 1 + q
  ·have hne : ((m : Int) != 56) = true := by
    have h1 := HQ.out; rw [bne_iff_ne]; omega
   have HM := hyd hm; clear hm
   go_wp2_with (first
    | (at_builtin; refine wpList_append_one rfl (.tmp 28) (.tmp 29) rfl (w.heap.size + 2) (.slice (some ⟨g, 0, none⟩) k cap) k xs rfl (HO.out.alloc _) ⟨wr.heap.size, 0, none⟩ 1 rfl 0 (new_cell wr _ _) (by omega) (by have := HV.out.size; simp; omega) ?_; intro v3 w3 hown3 hgr3)
    | fail)
   have hk8 : padF l k = 0 := zero_more l k (by have := HN.out; omega) (by have := HN.out; have h2 := HQ.out; have h3 := pad_z l.length; subst n; omega); obtain ⟨g3, cap3, rfl, _, _⟩ := own_form hown3 (by omega); exact ⟨⟨k + 1, _, by omega, by omega, hown3, HR.out.more (RowIs.len HO.out) 0 hk8, (HV.out.alloc _).grown hgr3 (fun j hj => by cases hj; exact hgb)⟩, by simp only [sliceLen]; omega⟩
  ·obtain rfl : k = n + 1 + q := by omega
   have hne : ((m : Int) != 56) = false := by
    have h1 := HQ.out; rw [bne_eq_false_iff_eq]; omega
   have hne2 : (((n : Int) + 1 + (q : Int)) % 64 != 56) = false := by
    have h1 := HQ.out; rw [bne_eq_false_iff_eq]; omega
   have HM := hyd hm; clear hm; clear htm htm2 hne
   go_wp2_with fail
   clear hne2 HM hk0 hk1 hlt
   go_loopw [4, 6] (fun v i wr => ∃ (t : Nat) (xs : List Value), t ≤ 8 ∧ i = .int .i64 (7 - (t : Int)) ∧ wr.ownsRow (w.heap.size + 2) 5 1 v (n + 1 + q + t) xs ∧ RowIs xs (n + 1 + q + t) (padF l) ∧ Rv w wr z h0) (fun _ i _ => (intOf i + 1).toNat)
   case atStart => exact ⟨0, xs, by omega, rfl, HO.out, HR.out, HV.out⟩
   case round =>
    clear HO HR HV hgb hgl; obtain ⟨t, xs, ht, rfl, hown, hrow, hv⟩ := hrel; obtain ⟨g, cap, rfl, hgb, hgl⟩ := own_form hown (by omega); have HO := hyd hown; have HR := hyd hrow; have HV := hyd hv; clear hown hrow hv
    rename_i wr0 wr
    by_cases hlt : t < 8
    ·have htn : (8 * (7 - (t : Int))).toNat = 8 * (7 - t) := by omega
     have hge : decide ((7 : Int) - (t : Int) ≥ 0) = true := decide_eq_true (by omega)
     go_wp2_with (first
      | (at_builtin; refine wpList_append_one rfl (.tmp 39) (.tmp 46) rfl (w.heap.size + 2) (.slice (some ⟨g, 0, none⟩) (n + 1 + q + t) cap) (n + 1 + q + t) xs rfl (HO.out.alloc _) ⟨wr.heap.size, 0, none⟩ 1 rfl ((n : Int) * 8 / 2 ^ (8 * (7 - t)) % 256) (new_cell wr _ _) (by omega) (by have := HV.out.size; simp; omega) ?_; intro v3 w3 hown3 hgr3)
      | fail)
     refine ⟨?re2, ?me2⟩
     case re2 =>
      refine ⟨t + 1, _, by omega, congrArg (Value.int .i64) (by omega), hown3, ?_, (HV.out.alloc _).grown hgr3 (fun j hj => by cases hj; exact hgb)⟩; have hr := HR.out; have ho := HO.out; rw [HN.out] at hr ho ⊢; exact pad_more l t q (by have := HQ.out; rw [HN.out] at this; exact this) hlt _ rfl hr (RowIs.len ho)
     case me2 => simp [intOf]; omega
    ·obtain rfl : t = 8 := by omega
     generalize hneg : (7 : Int) - ((8 : Nat) : Int) = neg
     have hneg2 : neg < 0 := by omega
     have hge2 : decide ((0 : Int) ≤ neg) = false := decide_eq_false (by omega); clear hneg; have hP := pad_z l.length; obtain ⟨P, hPe⟩ : ∃ P, P = n + 1 + q + 8 := ⟨_, rfl⟩
     have hP2 : P = padLen l.length := by have h1 := HN.out; have h2 := HQ.out; subst n; omega
     obtain ⟨B, hBe⟩ : ∃ B, B = padLen l.length / 64 := ⟨_, rfl⟩
     have hPB : P = 64 * B := by rw [hP2, hBe]; unfold padLen; omega
     have hB6 : B ≤ 100000 := by omega
     have hbytes : ∀ i, i < P → wr.cell? ⟨g, i, none⟩ = some (.int .u8 (padF l i).toNat) := fun i hi => by
      rw [HO.out.cellAt i (by omega), HR.out i (by omega)]
     have hown := HO.out; rw [← hPe] at hown ⊢; have HPB := hyd hPB; have HBE := hyd hBe; have HBY := hyd hbytes; clear hP hPe hP2 hPB hBe hbytes HR HO hlt ht hown HQ hq64
     go_wp2_with fail
     go_loopw [7] (fun v wr => ∃ k : Nat, k ≤ B ∧ v = .int .i64 (64 * (k : Int)) ∧ (∀ i, i < P → wr.cell? ⟨g, i, none⟩ = some (.int .u8 (padF l i).toNat)) ∧ g < wr.heap.size ∧ Rv w wr z (hs (padF l) k)) (fun v _ => (64 * B : Nat) - (intOf v).toNat)
     case atStart => exact ⟨0, Nat.zero_le _, rfl, HBY.out, hgl, HV.out⟩
     case round =>
      clear HBY hgl HV
      rename World => wa
      obtain ⟨k, hk, rfl, hby, hgl, hv⟩ := hrel; have HBY := hyd hby; have HV := hyd hv; clear hby hv
      by_cases hlt : k < B
      ·have hltP : 64 * (k : Int) < (P : Int) := by have := HPB.out; omega
       go_wp2_with fail
       generalize hwc : wa.alloc (.cells z8 137) = wc
       have hgc : wc.heap[wa.heap.size]? = some (.cells z8 137 (0, 0)) := by subst hwc; exact heap_alloc_new _ _
       have hbc : Below wa.heap.size wa wc := by subst hwc; exact (Below.refl _ wa).alloc (Nat.le_refl _) _
       clear hwc
       obtain ⟨m, hm⟩ : ∃ m : Nat → UInt8, m = fun i => padF l (64 * k + i) := ⟨_, rfl⟩
       have hbm : ∀ i, i < 64 → wa.cell? ⟨g, 64 * k + i, none⟩ = some (.int .u8 (m i).toNat) := fun i hi => by
        rw [HBY.out _ (by have := HPB.out; omega), hm]
       have HM := hyd hm; have HBM := hyd hbm; have HGC := hyd hgc; have HBC := hyd hbc; clear hm hbm hgc hbc
       go_loopw [9] (fun v wt => ∃ (t : Nat) (arr : Array Value), t ≤ 80 ∧ v = .int .i64 t ∧ wt.heap[wa.heap.size]? = some (.cells arr 137 (0, 0)) ∧ arr.size = 80 ∧
        (∀ j, j < t → arr[j]? = some (.int .u32 (W80 m j).toNat)) ∧ Below wa.heap.size wa wt) (fun v _ => 80 - (intOf v).toNat)
       case atStart => exact ⟨0, z8, Nat.zero_le _, rfl, HGC.out, HZ8.out, fun j hj => absurd hj (Nat.not_lt_zero _), HBC.out⟩
       case round =>
        clear HGC HBC
        rename World => wt
        obtain ⟨t, arr, ht, rfl, ha, hsz, har, hbt⟩ := hrel; have HA := hyd ha; have HSZ := hyd hsz; have HAR := hyd har; clear ha hsz har
        by_cases hlt80 : t < 80
        ·by_cases h16 : t < 16
         ·obtain ⟨p, hpn⟩ : ∃ p : Nat, p = 64 * k + 4 * t := ⟨_, rfl⟩
          have hx : ∀ j, j < 4 → wt.cell? ⟨g, p + j, none⟩ = some (.int .u8 (m (4 * t + j)).toNat) := fun j hj => by
           rw [hpn, hbt.cell (p := ⟨g, 64 * k + 4 * t + j, none⟩) hgl, Nat.add_assoc, HBM.out (4 * t + j) (by omega)]
          have q0 := hx 0 (by omega); have q1 := hx 1 (by omega); have q2 := hx 2 (by omega); have q3 := hx 3 (by omega)
          have hp : 64 * (k : Int) + 4 * (t : Int) = (p : Int) := by omega
          have hpP : p + 3 < P := by have := HPB.out; omega
          have hpl : p < 100000000 := by omega
          have v1 : IntKind.i64.wrap ((p : Int) + 1) = (p : Int) + 1 := by rw [IntKind.wrap_i64]; omega
          have v2 : IntKind.i64.wrap ((p : Int) + 2) = (p : Int) + 2 := by rw [IntKind.wrap_i64]; omega
          have v3 : IntKind.i64.wrap ((p : Int) + 3) = (p : Int) + 3 := by rw [IntKind.wrap_i64]; omega
          have j0 := fun u => index_u8 u g P cap p (by omega) (p : Int) rfl
          have j1 := fun u => index_u8 u g P cap (p + 1) (by omega) ((p : Int) + 1) (by omega)
          have j2 := fun u => index_u8 u g P cap (p + 2) (by omega) ((p : Int) + 2) (by omega)
          have j3 := fun u => index_u8 u g P cap (p + 3) (by omega) ((p : Int) + 3) (by omega)
          clear hx hpn; rw [Nat.add_zero] at q0; obtain ⟨x0, e0⟩ : ∃ x : Int, x = (m (4 * t + 0)).toNat := ⟨_, rfl⟩; obtain ⟨x1, e1⟩ : ∃ x : Int, x = (m (4 * t + 1)).toNat := ⟨_, rfl⟩; obtain ⟨x2, e2⟩ : ∃ x : Int, x = (m (4 * t + 2)).toNat := ⟨_, rfl⟩; obtain ⟨x3, e3⟩ : ∃ x : Int, x = (m (4 * t + 3)).toNat := ⟨_, rfl⟩; rw [← e0] at q0; rw [← e1] at q1; rw [← e2] at q2; rw [← e3] at q3
          obtain ⟨l0a, l0b⟩ : 0 ≤ x0 ∧ x0 < 256 := by rw [e0]; exact u8_lt _
          obtain ⟨l1a, l1b⟩ : 0 ≤ x1 ∧ x1 < 256 := by rw [e1]; exact u8_lt _
          obtain ⟨l2a, l2b⟩ : 0 ≤ x2 ∧ x2 < 256 := by rw [e2]; exact u8_lt _
          obtain ⟨l3a, l3b⟩ : 0 ≤ x3 ∧ x3 < 256 := by rw [e3]; exact u8_lt _
          have E0 := hyd e0; have E1 := hyd e1; have E2 := hyd e2; have E3 := hyd e3; clear e0 e1 e2 e3; obtain ⟨old, ho⟩ : ∃ v, wt.cell? ⟨wa.heap.size, t, none⟩ = some v := ⟨arr[t]'(by rw [HSZ.out]; omega), by rw [cell_of_row wt _ t arr _ _ HA.out]; simp⟩; have hf : wt.frozen? ⟨wa.heap.size, t, none⟩ = false := not_frozen HA.out t
          have hix := fun u => index_arr80 u wa.heap.size t (by omega) t rfl
          go_wp2_with fail
          go_still_tail 31, (by kernel_rfl)
          change wpList _ _ _ _ _ wt.drew
          go_wp2; refine ⟨?re4, ?me4⟩
          case re4 =>
           refine ⟨t + 1, arr.setIfInBounds t _, by omega, congrArg (Value.int .i64) (by omega), heap_set HA.out t _, by rw [Array.size_setIfInBounds]; exact HSZ.out, fun j hj => ?_, (hbt.setCell (Nat.le_refl _) _).drew⟩; rw [set_get _ _ _ _ (by rw [HSZ.out]; omega)]
           split
           ·rename_i e; subst e
            rw [E0.out, E1.out, E2.out, E3.out, W80_lo m _ h16, ← word_int]; rfl
           ·exact HAR.out j (by omega)
          case me4 => simp [intOf]; omega
         ·go_wp2_with fail
          have hx : ∀ j, j < t → wt.cell? ⟨wa.heap.size, j, none⟩ = some (.int .u32 (W80 m j).toNat) := fun j hj => by
           rw [cell_of_row wt _ j arr _ _ HA.out, HAR.out j hj]
          have hy := W80_hi m t (by omega) hlt80; obtain ⟨a3, f3⟩ : ∃ a, a = t - 3 := ⟨_, rfl⟩; have q3 := hx a3 (by omega)
          have i3 := fun u => index_arr80 u wa.heap.size a3 (by omega) ((t : Int) - 3) (by omega)
          rw [← f3] at hy
          have w3 : IntKind.i64.wrap ((t : Int) - 3) = (t : Int) - 3 := by rw [IntKind.wrap_i64]; omega
          generalize W80 m a3 = y3 at hy q3; obtain ⟨a8, f8⟩ : ∃ a, a = t - 8 := ⟨_, rfl⟩; have q8 := hx a8 (by omega)
          have i8 := fun u => index_arr80 u wa.heap.size a8 (by omega) ((t : Int) - 8) (by omega)
          rw [← f8] at hy
          have w8 : IntKind.i64.wrap ((t : Int) - 8) = (t : Int) - 8 := by rw [IntKind.wrap_i64]; omega
          generalize W80 m a8 = y8 at hy q8; obtain ⟨a14, f14⟩ : ∃ a, a = t - 14 := ⟨_, rfl⟩; have q14 := hx a14 (by omega)
          have i14 := fun u => index_arr80 u wa.heap.size a14 (by omega) ((t : Int) - 14) (by omega)
          rw [← f14] at hy
          have w14 : IntKind.i64.wrap ((t : Int) - 14) = (t : Int) - 14 := by rw [IntKind.wrap_i64]; omega
          generalize W80 m a14 = y14 at hy q14; obtain ⟨a16, f16⟩ : ∃ a, a = t - 16 := ⟨_, rfl⟩; have q16 := hx a16 (by omega)
          have i16 := fun u => index_arr80 u wa.heap.size a16 (by omega) ((t : Int) - 16) (by omega)
          rw [← f16] at hy
          have w16 : IntKind.i64.wrap ((t : Int) - 16) = (t : Int) - 16 := by rw [IntKind.wrap_i64]; omega
          generalize W80 m a16 = y16 at hy q16
          have hix := fun u => index_arr80 u wa.heap.size t (by omega) t rfl
          obtain ⟨old, ho⟩ : ∃ v, wt.cell? ⟨wa.heap.size, t, none⟩ = some v := ⟨arr[t]'(by rw [HSZ.out]; omega), by rw [cell_of_row wt _ t arr _ _ HA.out]; simp⟩; have hf : wt.frozen? ⟨wa.heap.size, t, none⟩ = false := not_frozen HA.out t; obtain ⟨x, hxe⟩ : ∃ x, x = y3 ^^^ y8 ^^^ y14 ^^^ y16 := ⟨_, rfl⟩; rw [← hxe] at hy; have HY := hyd hy
          have hX : bits BinOp.xor .u32 (bits BinOp.xor .u32 (bits BinOp.xor .u32 (y3.toNat : Int) (y8.toNat : Int)) (y14.toNat : Int)) (y16.toNat : Int) = (x.toNat : Int) := by rw [hxe, b_xor, b_xor, b_xor]
          clear hxe; clear hy hx f3 f8 f14 f16
          go_still_tail 22, (by kernel_rfl)
          still_call (rot_flip (left_1 x _))
          repeat still_step
          refine wpStill_nil ?_
          change wpList _ _ _ _ _ wt.drew
          go_wp2; refine ⟨?re5, ?me5⟩
          case re5 =>
           refine ⟨t + 1, arr.setIfInBounds t _, by omega, congrArg (Value.int .i64) (by omega), heap_set HA.out t _, by rw [Array.size_setIfInBounds]; exact HSZ.out, fun j hj => ?_, (hbt.setCell (Nat.le_refl _) _).drew⟩; rw [set_get _ _ _ _ (by rw [HSZ.out]; omega)]
           split
           ·rename_i e; subst e
            rw [HY.out]
           ·exact HAR.out j (by omega)
          case me5 => simp [intOf]; omega
        ·have HT80 := hyd (show t = 80 by omega)
         have hwa : wa.heap.size ≤ wt.heap.size := hbt.size; obtain ⟨ha, hha, hhw⟩ := HV.out.words; have hht : wt.heap[w.heap.size + 1]? = some (.cells ha 124 (0, 0)) := (hbt.block _ (lt_of_heap hha)).trans hha; have hhs := hhw.size; have hhall := hhw.all; have HHT := hyd hht; have HHW := hyd hhw; have HHS := hyd hhs; have HHA := hyd hhall; clear hha hhw hht hhs hhall
         go_upto_region 22 with (first
          | (with_reducible refine wpList_load_row rfl 124 (.tmp 3) rfl (w.heap.size + 1) rfl 124 ha (0, 0) _ ?lg Tryz.underlying124 rfl ?li ?_)
          | (with_reducible refine wpList_store_row rfl 124 (.tmp 11) (.tmp 117) rfl wt.heap.size ha rfl rfl 124 z5 ?ug ?ui ?uo ?u1 ?_)
          | fail)
         case lg => exact HHT.out
         case li => rw [info36, HHS.out]
         case ug => exact heap_alloc_new _ _
         case ui => rw [info36, HHS.out]
         case uo => rw [HZ5.out, HHS.out]
         case u1 => exact HHA.out
         generalize hwv : ((wt.alloc (.cells z5 124)).setRow wt.heap.size ha) = wv0
         have hgv : wv0.heap[wt.heap.size]? = some (.cells ha 124 (0, 0)) := by
          subst hwv; exact setRow_heap _ _ z5 ha _ _ (heap_alloc_new _ _)
         have hbv : Below wt.heap.size wt wv0 := by
          subst hwv; exact below_setRow ((Below.refl _ wt).alloc (Nat.le_refl _) _) (Nat.le_refl _) ha
         clear hwv; have HGV := hyd hgv; have HBV := hyd hbv; clear hgv hbv
         go_wp2_with fail
         go_loopw [12] (fun v wx => ∃ (t5 : Nat) (s : H5) (va : Array Value), t5 ≤ 80 ∧ v = .int .i64 t5 ∧ wx.heap[wt.heap.size]? = some (.cells va 124 (0, 0)) ∧ W5 va s ∧ s = rounds (sched m 80) (hs (padF l) k) t5 ∧ Below wt.heap.size wt wx) (fun v _ => 80 - (intOf v).toNat)
         case atStart => exact ⟨0, _, ha, Nat.zero_le _, rfl, HGV.out, HHW.out, rfl, HBV.out⟩
         case round =>
          clear HGV HBV
          rename World => wx
          obtain ⟨t5, s, va, ht5, rfl, hva, hvw, hvs, hbx⟩ := hrel; have HVA := hyd hva; have HVW := hyd hvw; have HVS := hyd hvs; clear hva hvw hvs
          by_cases hlt5 : t5 < 80
          ·have hc : ∀ i, i < 5 → wx.cell? ⟨wt.heap.size, i, none⟩ = some (.int .u32 (s.get i).toNat) := fun i hi => by rw [cell_of_row wx _ i va _ _ HVA.out, HVW.out.word i hi]
           have q0 : wx.cell? ⟨wt.heap.size, 0, none⟩ = some (.int .u32 s.a.toNat) := hc 0 (by omega); have q1 : wx.cell? ⟨wt.heap.size, 1, none⟩ = some (.int .u32 s.b.toNat) := hc 1 (by omega); have q2 : wx.cell? ⟨wt.heap.size, 2, none⟩ = some (.int .u32 s.c.toNat) := hc 2 (by omega); have q3 : wx.cell? ⟨wt.heap.size, 3, none⟩ = some (.int .u32 s.d.toNat) := hc 3 (by omega); have q4 : wx.cell? ⟨wt.heap.size, 4, none⟩ = some (.int .u32 s.e.toNat) := hc 4 (by omega)
           have qw : wx.cell? ⟨wa.heap.size, t5, none⟩ = some (.int .u32 (W80 m t5).toNat) := by
            rw [hbx.cell (p := ⟨wa.heap.size, t5, none⟩) (lt_of_heap HA.out), cell_of_row wt _ t5 arr _ _ HA.out, HAR.out t5 (by have := HT80.out; omega)]
           obtain ⟨y, hy⟩ : ∃ y : Int, y = (W80 m t5).toNat := ⟨_, rfl⟩; rw [← hy] at qw; have HY := hyd hy; clear hy hc
           have i0 := fun u => index_arr5 u wt.heap.size 0 (by omega) 0 rfl
           have i1 := fun u => index_arr5 u wt.heap.size 1 (by omega) 1 rfl
           have i2 := fun u => index_arr5 u wt.heap.size 2 (by omega) 2 rfl
           have i3 := fun u => index_arr5 u wt.heap.size 3 (by omega) 3 rfl
           have i4 := fun u => index_arr5 u wt.heap.size 4 (by omega) 4 rfl
           have iw := fun u => index_arr80 u wa.heap.size t5 hlt5 t5 rfl
           go_wp2_with fail
           refine (rmix_any t5 hlt5 s.b s.c s.d _).mono ?_; rintro e w9 ⟨rfl, rfl⟩; generalize hrf : (((fF t5 s.b s.c s.d).toNat : Nat) : Int) = rf; generalize hrk : (((kF t5).toNat : Nat) : Int) = rk; have HRF := hyd hrf; have HRK := hyd hrk; clear hrf hrk
           go_wp2_with fail
           go_quiet ((go_at_call 78; exact Calls.quiet_of_same (rot_flip (left_5 _ _))))
           generalize hX : (((((rl s.a 5).toNat : Int) + rf + (s.e.toNat : Int) + rk) % 4294967296 + y) % 4294967296) = X; have HX := hyd hX; clear hX; have k0 : (wx.drewN nq).cell? ⟨wt.heap.size, 0, none⟩ = some (.int .u32 s.a.toNat) := q0; have k1 : (wx.drewN nq).cell? ⟨wt.heap.size, 1, none⟩ = some (.int .u32 s.b.toNat) := q1; have k2 : (wx.drewN nq).cell? ⟨wt.heap.size, 2, none⟩ = some (.int .u32 s.c.toNat) := q2; have k3 : (wx.drewN nq).cell? ⟨wt.heap.size, 3, none⟩ = some (.int .u32 s.d.toNat) := q3; have hya : (wx.drewN nq).heap[wt.heap.size]? = some (.cells va 124 (0, 0)) := HVA.out; have hby : Below wt.heap.size wt (wx.drewN nq) := _root_.Go.below_drewN hbx _; generalize wx.drewN nq = wy at k0 k1 k2 k3 hya hby ⊢; clear q0 q1 q2 q3 q4 qw iw i4 hbx; clear hzv5; have hzl := zero_arr zlit36; have HYA := hyd hya; clear hya
           go_wp2_with fail
           go_still_tail 11, (by kernel_rfl)
           still_call (rot_flip (left_30 _ _))
           repeat still_step
           refine wpStill_nil ?_
           change wpList _ _ _ _ _ wy.drew
           go_wp2_with (with_reducible refine wpList_store_row rfl 124 (.tmp 11) (.tmp 157) rfl wt.heap.size #[.int .u32 X, .int .u32 s.a.toNat, .int .u32 (rl s.b 30).toNat, .int .u32 s.c.toNat, .int .u32 s.d.toNat] rfl rfl 124 va ?vg ?vi ?vo ?v1 ?_)
           case vg => exact HYA.out
           case vi => rw [info36]; rfl
           case vo => rw [HVW.out.size]; rfl
           case v1 => exact five_all _ _ _ _ _
           have hX2 : X = ((stepH t5 (W80 m t5) s).a.toNat : Int) := by
            rw [← HX.out, HY.out, ← HRF.out, ← HRK.out]; exact step_a3 t5 _ s
           have hW : W5 #[.int .u32 X, .int .u32 s.a.toNat, .int .u32 (rl s.b 30).toNat, .int .u32 s.c.toNat, .int .u32 s.d.toNat] (stepH t5 (W80 m t5) s) := by
            rw [hX2]; exact five_W5 (stepH t5 (W80 m t5) s)
           exact ⟨⟨t5 + 1, _, _, hlt5, congrArg (Value.int .i64) (by omega), setRow_heap wy.drew _ va _ _ (0, 0) HYA.out, hW, by rw [HVS.out, rounds80], below_setRow hby.drew (Nat.le_refl _) _⟩, by simp only [intOf]; omega⟩
          ·have HT5 := hyd (show t5 = 80 by omega)
           have hRx := ((HV.out.grown (grown_of_below hbt none) (fun j hj => by cases hj)).grown (grown_of_below hbx none) (fun j hj => by cases hj)); obtain ⟨hx, hhx, hhw⟩ := hRx.words; have hgt : g < wt.heap.size := Nat.lt_of_lt_of_le hgl hwa
           have hbyx : ∀ i, i < P → wx.cell? ⟨g, i, none⟩ = some (.int .u8 (padF l i).toNat) := fun i hi => by
            rw [hbx.cell (p := ⟨g, i, none⟩) hgt, hbt.cell (p := ⟨g, i, none⟩) hgl]; exact HBY.out i hi
           have HRX := hyd hRx; have HHX := hyd hhx; have HHWX := hyd hhw; have HBYX := hyd hbyx; have hgx : wt.heap.size < wx.heap.size := lt_of_heap HVA.out
           have hgne : wt.heap.size ≠ w.heap.size + 1 := by have h1 := HV.out.size; omega
           clear hRx hhx hhw hbyx
           go_wp2_with fail
           go_loopw [16] (fun v wz => ∃ (i6 : Nat) (hc : Array Value), i6 ≤ 5 ∧ v = .int .i64 i6 ∧ wz.heap[w.heap.size + 1]? = some (.cells hc 124 (0, 0)) ∧ hc.size = 5 ∧
            (∀ j, j < 5 → hc[j]? = some (.int .u32 ((if j < i6 then addH (hs (padF l) k) s else hs (padF l) k).get j).toNat)) ∧ wx.grownBy wz (some (w.heap.size + 1))) (fun v _ => 5 - (intOf v).toNat)
           case atStart => exact ⟨0, hx, Nat.zero_le _, rfl, HHX.out, HHWX.out.size, fun j hj => by rw [if_neg (Nat.not_lt_zero _)]; exact HHWX.out.word j hj, grown_of_below (Below.refl _ _) _⟩
           case round =>
            rename World => wz
            obtain ⟨i6, hc, hi6, rfl, hhc, hcs, hcw, hgz⟩ := hrel; have HHC := hyd hhc; have HCS := hyd hcs; have HCW := hyd hcw; clear hhc hcs hcw
            by_cases hlt6 : i6 < 5
            ·have qh : wz.cell? ⟨w.heap.size + 1, i6, none⟩ = some (.int .u32 ((hs (padF l) k).get i6).toNat) := by
              rw [cell_of_row wz _ i6 hc _ _ HHC.out, HCW.out i6 hlt6, if_neg (Nat.lt_irrefl _)]
             have qv : wz.cell? ⟨wt.heap.size, i6, none⟩ = some (.int .u32 (s.get i6).toNat) := by
              rw [World.cell?_of_block (w := wx) (w' := wz) (a := ⟨wt.heap.size, i6, none⟩) (hgz.block _ hgx (by simp; omega)), cell_of_row wx _ i6 va _ _ HVA.out, HVW.out.word i6 hlt6]
             have ih := fun u => index_arr5 u (w.heap.size + 1) i6 hlt6 i6 rfl
             have iv := fun u => index_arr5 u wt.heap.size i6 hlt6 i6 rfl
             have hf := not_frozen HHC.out i6; obtain ⟨xh, ehh⟩ : ∃ x : Int, x = ((hs (padF l) k).get i6).toNat := ⟨_, rfl⟩; obtain ⟨xv, ehv⟩ : ∃ x : Int, x = (s.get i6).toNat := ⟨_, rfl⟩; rw [← ehh] at qh; rw [← ehv] at qv; have EH := hyd ehh; have EV := hyd ehv; clear ehh ehv
             go_wp2_with fail
             go_still_tail 9, (by kernel_rfl)
             change wpList _ _ _ _ _ wz.drew
             go_wp2
             have hs6 : (xh + xv) % 4294967296 = (((addH (hs (padF l) k) s).get i6).toNat : Int) := by
              rw [EH.out, EV.out, b_add, get_add _ _ _ hlt6]
             refine ⟨⟨i6 + 1, hc.setIfInBounds i6 _, hlt6, congrArg (Value.int .i64) (by omega), heap_set HHC.out i6 _, by rw [Array.size_setIfInBounds]; exact HCS.out, fun j hj => ?_, grown_drew (grown_trans hgz (grown_set wz _ i6 _))⟩, by simp only [intOf]; omega⟩; rw [set_get _ _ _ _ (by rw [HCS.out]; exact hlt6)]
             by_cases hji : j = i6
             ·rw [if_pos hji, if_pos (by omega), hs6, hji]
             ·rw [if_neg hji, HCW.out j hj]
              by_cases hj2 : j < i6
              ·rw [if_pos hj2, if_pos (by omega)]
              ·rw [if_neg hj2, if_neg (by omega)]
            ·have HI6 := hyd (show i6 = 5 by omega)
             go_wp2
             have hz1 : ∀ j, j < w.heap.size + 1 → wz.heap[j]? = wx.heap[j]? := fun j hj => hgz.block j (by have := HRX.out.size; omega) (fun e => by cases e; omega)
             have hgx2 : g < wx.heap.size := Nat.lt_trans hgt hgx
             have hgh : g ≠ w.heap.size + 1 := by omega
             refine ⟨⟨k + 1, hlt, congrArg (Value.int .i64) (by omega), fun i hi => ?_, Nat.lt_of_lt_of_le hgx2 hgz.size, ⟨(hz1 _ (by omega)).trans HRX.out.res, ⟨hc, HHC.out, HCS.out, fun j hj => ?_⟩, Nat.le_trans HRX.out.size hgz.size, ?_⟩⟩, by simp only [intOf]; omega⟩
             ·rw [World.cell?_of_block (w := wx) (w' := wz) (a := ⟨g, i, none⟩) (hgz.block _ hgx2 (fun e => hgh (by cases e; rfl))), HBYX.out i hi]
             ·have hm := HM.out
              subst hm; rw [HCW.out j hj, if_pos (by have := HI6.out; omega), hs_next, HVS.out, HT5.out]
             ·exact HRX.out.below.grown hgz (HRX.out.below.size) (fun j hj => by cases hj; omega)
      ·obtain rfl : k = B := by omega
       have hltP : ¬ 64 * (k : Int) < (P : Int) := by have := HPB.out; omega
       obtain ⟨ha, hha, hhw⟩ := HV.out.words; have HHA := hyd hha; have HHW := hyd hhw; clear hha hhw
       go_wp2_with fail
       generalize hwo : wa.alloc (.cells z 24) = wo
       have hgo : wo.heap[wa.heap.size]? = some (.cells z 24 (0, 0)) := by subst hwo; exact heap_alloc_new _ _
       have hbo : Below wa.heap.size wa wo := by subst hwo; exact (Below.refl _ wa).alloc (Nat.le_refl _) _
       clear hwo; have HGO := hyd hgo; have HBO := hyd hbo; clear hgo hbo; have hal := lt_of_heap HHA.out
       go_loopw [18] (fun v wz => ∃ (i : Nat) (arr : Array Value), i ≤ 20 ∧ v = .int .i64 i ∧ wz.heap[wa.heap.size]? = some (.cells arr 24 (0, 0)) ∧ arr.size = 20 ∧
        (∀ j, j < i → arr[j]? = some (.int .u8 ((digest (hs (padF l) k)).getD j 0).toNat)) ∧ Below wa.heap.size wa wz) (fun v _ => 20 - (intOf v).toNat)
       case atStart => exact ⟨0, z, Nat.zero_le _, rfl, HGO.out, HZS.out, fun j hj => absurd hj (Nat.not_lt_zero _), HBO.out⟩
       case round =>
        clear HGO HBO
        rename World => wz
        obtain ⟨i, arr, hi, rfl, har, hsz, had, hbz⟩ := hrel; have HAR := hyd har; have HAS := hyd hsz; have HAD := hyd had; clear har hsz had
        by_cases hlt20 : i < 20
        ·obtain ⟨a, ea⟩ : ∃ a, a = i / 4 := ⟨_, rfl⟩
         obtain ⟨b, eb⟩ : ∃ b, b = i % 4 := ⟨_, rfl⟩
         have hd : (i : Int) / 4 = (a : Int) := by omega
         have hm : (i : Int) % 4 = (b : Int) := by omega
         have hb4 : b < 4 := by omega
         have htn : ((24 : Int) - 8 * (b : Int)).toNat = 24 - 8 * b := by omega
         have qh : wz.cell? ⟨w.heap.size + 1, a, none⟩ = some (.int .u32 ((hs (padF l) k).get a).toNat) := by
          rw [hbz.cell (p := ⟨w.heap.size + 1, a, none⟩) hal, cell_of_row wa _ a ha _ _ HHA.out, HHW.out.word a (by omega)]
         obtain ⟨x, hx⟩ : ∃ x : Int, x = ((hs (padF l) k).get a).toNat := ⟨_, rfl⟩; rw [← hx] at qh
         have i5 := fun u => index_arr5 u (w.heap.size + 1) a (by omega) a rfl
         have i20 := fun u => index_arr20 u wa.heap.size i hlt20 i rfl
         have HX := hyd hx; have HA2 := hyd ea; have HB2 := hyd eb; clear hx ea eb; obtain ⟨old, ho⟩ : ∃ v, wz.cell? ⟨wa.heap.size, i, none⟩ = some v := ⟨arr[i]'(by rw [HAS.out]; exact hlt20), by rw [cell_of_row wz _ i arr _ _ HAR.out]; simp⟩; have hf := not_frozen HAR.out i; go_wp2; refine ⟨⟨i + 1, arr.setIfInBounds i _, by omega, congrArg (Value.int .i64) (by omega), heap_set HAR.out i _, by rw [Array.size_setIfInBounds]; exact HAS.out, fun j hj => ?_, hbz.setCell (Nat.le_refl _) _⟩, by simp only [intOf]; omega⟩; rw [set_get _ _ _ _ (by rw [HAS.out]; exact hlt20)]
         by_cases hji : j = i
         ·rw [if_pos hji, HX.out, show 24 - 8 * b = 8 * (3 - b) by omega, outB_int _ i a b HA2.out HB2.out, hji, digest_at _ i hlt20]
         ·rw [if_neg hji]
          exact HAD.out j (by omega)
        ·have HI := hyd (show i = 20 by omega)
         have harr : arr = (Lib.byteCells (sumL l)).toArray := by
          have e : sumL l = digest (hs (padF l) k) := by rw [HBE.out]; rfl
          rw [e]; exact arr_bc (by rw [HAS.out, digest_len]) (fun j hj => HAD.out j (by have h1 := HI.out; rw [digest_len] at hj; omega))
         have hall := bc_all (sumL l); rw [← harr] at hall; have HARR := hyd harr; have HALL := hyd hall; clear harr hall; have hr := (hbz.block _ (lt_of_heap HV.out.res)).trans HV.out.res; have HRR := hyd hr; clear hr; have hbw := HV.out.below.trans (hbz.mono HV.out.below.size)
         go_wp2_with (first
          | (with_reducible refine wpList_load_row rfl 24 (.tmp 17) rfl wa.heap.size rfl 24 arr (0, 0) _ ?rg Tryz.underlying24 rfl ?ri ?_)
          | (with_reducible refine wpList_store_row rfl 24 (.tmp 2) (.tmp 188) rfl w.heap.size arr rfl rfl 24 z ?tg ?ti ?tp ?t1 ?_)
          | fail)
         case rg => exact HAR.out
         case ri => rw [info29, HAS.out]
         case tg => exact HRR.out
         case ti => rw [info29, HAS.out]
         case tp => rw [HZS.out, HAS.out]
         case t1 => exact HALL.out
         refine bodyPost_ret (results_cell_row Tryz.results53 _ _ w.heap.size 24 arr (0, 0) _ rfl (setRow_heap wz w.heap.size z arr _ (0, 0) HRR.out) Tryz.underlying24 rfl (by rw [info29, HAS.out])) rfl ⟨by rw [HARR.out]; rfl, below_setRow hbw (Nat.le_refl _) arr⟩
end Go.Proofs.YtnbcbiglkmdepaaGreatDoor
